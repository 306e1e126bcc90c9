/- KBI of the stage: texts Xf8, joined. -/
import Derived.Test.YtnlkdlnmffibhaaGreatKBH
set_option linter.unusedSimpArgs false
set_option linter.unusedVariables false
set_option maxRecDepth 8000
namespace Go.Proofs.YtnlkdlnmffibhaaGreat
open List renaming setIfInBounds_toArray → lA, set_cons_zero → lZ, set_cons_succ → lS
open Go renaming wpAnyH_take → wT
open Go.Act renaming put → aP
section
open Go.RowKit Go.Maps
theorem xanswer_no {w : World} {g : Xg} {x : Xm} (h : XA w g x) (how : x.ow = false) : Calls Tryz.prog 20 #[.pointer (some ⟨g.b, 18, none⟩)] w fun e w' => e = .returned (.slice none 0 0) ∧ w = w' := by
  have c20 := h.c20
  rw [how] at c20
  clear h how
  go_enter Tryz.func20, Tryz.ntmps20
  go_wp2
  go_ret
  exact ⟨rfl, rfl⟩
theorem own_row12 {w : World} {g : Nat} {e : TypeId} {xs : List Value} (hg : w.heap[g]? = some (.cells xs.toArray e (0, 0))) (hn : xs.length = 12) : w.ownsRow g e 12 (.slice (some ⟨g, 0, none⟩) 1 1) 1 xs :=
  ⟨by omega, .inr ⟨g, 1, _, rfl, Nat.le_refl _, hg, Nat.le_refl _, (by decide), (by simpa using hn), (by simp only [Nat.one_mul, List.toList_toArray]; exact List.take_of_length_le (by omega))⟩⟩
theorem xflights_none {w : World} {g : Xg} {x : Xm} (h : XA w g x) (he : x.q.es = []) (now : Int) (hnow : 0 ≤ now ∧ now ≤ 1099511627776) (hpe : 0 ≤ x.pe ∧ x.pe ≤ 4294967296) (hR2 : x.ws.room 0 (max (x.pe - 0) 0) < 9223372036854775808) (hwa : 0 ≤ x.rs.wa ∧ x.rs.wa ≤ 1000000) :
    Calls Tryz.prog 21 #[.pointer (some ⟨g.b, 0, none⟩), .int .i64 now] w fun e w' => ∃ A c, e = .returned (.slice A 0 c) ∧ Hid (XA w' g x ∧ Xl w g w' g) := by
  have htk : ∀ r, takeQ x.q now r = ([], []) := fun r => by unfold takeQ; rw [he]; rfl
  have htq : ∀ r, tkQ x.q now r = x.q := fun r => by
    unfold tkQ
    rw [htk]
    show (⟨[], x.q.nx, x.q.mg⟩ : Qm) = x.q
    rw [← he]
  have hoc : octs x.q.es [1] = 0 := by rw [he]; rfl
  refine (xflights_any (f2 := 0) h (fun e hh => by rw [he] at hh; cases hh) now hnow hoc (by decide) hpe rfl rfl hR2 hwa (by rw [htq]; exact hoc) ?_ (by rw [he]; decide)).mono ?_
  · rw [htk]
    cases hx : x.ru with
    | true => exact .inl rfl
    | false => exact .inr (.inr ⟨rfl, rfl, rfl⟩)
  · rintro e w' ⟨A, n, c, ys, rfl, h1, h2⟩
    have h3 := h2.out.sr.2
    have h4 := congrArg List.length h2.out.ct
    rw [List.length_map, List.length_map, htk] at h4
    have hn : n = 0 := by rw [h3, h4]; rfl
    subst hn
    refine ⟨A, c, rfl, keep ?_⟩
    have h5 := h1.out
    rw [if_neg (fun hh => absurd hh.2 (by decide)), if_neg (fun hh => absurd hh.2 (by decide)), htq] at h5
    exact h5
set_option maxHeartbeats 8000000 in
theorem xTell_calm {w : World} {g : Xg} {x : Xm} (h : XA w g x) (how : x.ow = false) (hpl : PlainQ x.q) (now : Int) {f : Nat} (hf : octs x.q.es [1] = f) (hf1 : f ≤ 65536) (hpe : 0 ≤ x.pe ∧ x.pe ≤ 4294967296) {p R : Int} (hp : max (x.pe - (f : Int)) 0 = p) (hR : x.ws.room f p = R) (hR2 : R < 9223372036854775808) (hwa : 0 ≤ x.rs.wa ∧ x.rs.wa ≤ 1000000)
    {f2 : Nat} (hf2 : octs (tkQ x.q (bd now) R).es [1] = f2) (hway : x.ru = true ∨ x.ru = false ∧ 0 < (takeQ x.q (bd now) R).2.length ∨ x.ru = false ∧ (takeQ x.q (bd now) R).2.length = 0 ∧ f2 = 0) (hql : x.q.es.length ≤ 1024) :
    Calls Tryz.prog 8 #[.pointer (some ⟨g.b, 0, none⟩), .int .i64 now] w fun e w' => ∃ A n c ys, e = .returned (.slice A n c) ∧ Hid (XA w' g { x with q := tkQ x.q (bd now) R, tm := (if x.ru = false ∧ 0 < n then bd now + x.rs.wa else x.tm), ru := (if x.ru = false ∧ 0 < n then true else x.ru) } ∧ Xl w g w' g) ∧ Hid (RowP w w' x.q (bd now) R A n c ys) := by
  have H0 := keep h
  have KB := keep (xbounded_any now w)
  have KE := keep (xexpire_any h hpl (bd now))
  have KA := keep (fun W (H : XA W g x) => xanswer_no H how)
  have KF := keep (fun W (H : XA W g x) => xflights_any H hpl (bd now) (bd_in now) hf hf1 hpe hp hR hR2 hwa hf2 hway hql)
  obtain ⟨i0, hi0, hz0, hz1, hz2⟩ := info_parts zchunk_info
  have c0 := h.c0
  have HTL := keep (show (takeQ x.q (bd now) R).2.length ≤ 4096 from take_few x.q (bd now) R hql)
  obtain ⟨nw, hnw⟩ : ∃ nw, bd now = nw := ⟨_, rfl⟩
  rw [hnw] at KB KE KF HTL ⊢
  clear h how hpl hf hf1 hpe hp hR hR2 hwa hf2 hway hql hnw
  go_enter Tryz.func8, Tryz.ntmps8
  go_wp2_with (first
    | (go_at_call 18; refine KB.out.mono ?_; rintro e w' ⟨rfl, rfl⟩)
    | (go_at_call 19; refine KE.out.mono ?_; rintro e w1 ⟨⟨z, rfl⟩, H1⟩))
  have H2 := keep H1.out.1.drew
  have HL2 := keep (H1.out.2.trans (Xl.below (Below.refl _ _).drew))
  refine wp_region_held_drew (S := (fun _ => True)) (by kernel_rfl) trivial (fun hHeld => ?_)
  refine wT (i := 0) (oi := ⟨some 16, _, _, _, _, _⟩) (v := ?vt1x0) rfl (by kernel_rfl) (by kernel_rfl) (by kernel_rfl) (fun _ _ _ h => h) (Or.inl ⟨by rfl, ?hyt1x0⟩) (by assumption) ?restt1x0
  case hyt1x0 => (intro wz hSw; (try dsimp only at hSw); go_simp <;> try with_reducible rfl)
  try simp only [aP, lA, lZ, lS]
  refine wT (i := 1) (oi := ⟨some 17, _, _, _, _, _⟩) (v := ?vt2x1) rfl (by kernel_rfl) (by kernel_rfl) (by kernel_rfl) (fun _ _ _ h => h) (Or.inl ⟨by rfl, ?hyt2x1⟩) (by assumption) ?restt2x1
  case hyt2x1 => (intro wz hSw; (try dsimp only at hSw); go_simp <;> try with_reducible rfl)
  try simp only [aP, lA, lZ, lS]
  refine wT (i := 2) (oi := ⟨some 18, _, _, _, _, _⟩) (v := ?vt3x2) rfl (by kernel_rfl) (by kernel_rfl) (by kernel_rfl) (fun _ _ _ h => h) (Or.inl ⟨by rfl, ?hyt3x2⟩) (by assumption) ?restt3x2
  case hyt3x2 => (intro wz hSw; (try dsimp only at hSw); go_simp <;> try with_reducible rfl)
  try simp only [aP, lA, lZ, lS]
  refine wT (i := 4) (oi := ⟨some 20, _, _, _, _, _⟩) (v := ?vt4x4) rfl (by kernel_rfl) (by kernel_rfl) (by kernel_rfl) (fun _ _ _ h => h) (Or.inl ⟨by rfl, ?hyt4x4⟩) (by assumption) ?restt4x4
  case hyt4x4 => (intro wz hSw; (try dsimp only at hSw); go_simp <;> try with_reducible rfl)
  try simp only [aP, lA, lZ, lS]
  refine wT (i := 5) (oi := ⟨some 21, _, _, _, _, _⟩) (v := ?vt5x5) rfl (by kernel_rfl) (by kernel_rfl) (by kernel_rfl) (fun _ _ _ h => h) (Or.inl ⟨by rfl, ?hyt5x5⟩) (by assumption) ?restt5x5
  case hyt5x5 => (intro wz hSw; (try dsimp only at hSw); go_simp <;> try with_reducible rfl)
  try simp only [aP, lA, lZ, lS]
  refine wT (i := 6) (oi := ⟨some 22, _, _, _, _, _⟩) (v := ?vt6x6) rfl (by kernel_rfl) (by kernel_rfl) (by kernel_rfl) (fun _ _ _ h => h) (Or.inl ⟨by rfl, ?hyt6x6⟩) (by assumption) ?restt6x6
  case hyt6x6 => (intro wz hSw; (try dsimp only at hSw); go_simp <;> try with_reducible rfl)
  try simp only [aP, lA, lZ, lS]
  refine wT (i := 7) (oi := ⟨some 23, _, _, _, _, _⟩) (v := ?vt7x7) rfl (by kernel_rfl) (by kernel_rfl) (by kernel_rfl) (fun _ _ _ h => h) (Or.inl ⟨by rfl, ?hyt7x7⟩) (by assumption) ?restt7x7
  case hyt7x7 => (intro wz hSw; (try dsimp only at hSw); go_simp <;> try with_reducible rfl)
  try simp only [aP, lA, lZ, lS]
  refine wpAnyH_ready (rs := [3]) (by kernel_rfl) (by simp) (AllReadyH.cons (o := ⟨some 19, _, _, _, _, _⟩) rfl (fun K hK => ?_) AllReadyH.nil)
  go_simp
  go_at_call 20
  refine (KA.out _ H2.out).mono ?_
  rintro e w' ⟨rfl, rfl⟩
  (try go_wp2_with fail)
  refine hK.out _ _ trivial (fun hHeld => ?_)
  clear hK K
  try simp only [aP, lA, lZ, lS]
  refine wpAnyH_ready (rs := [8]) (by kernel_rfl) (by simp) (AllReadyH.cons (o := ⟨some 24, _, _, _, _, _⟩) rfl (fun K hK => ?_) AllReadyH.nil)
  go_simp
  go_at_call 21
  refine (KF.out _ H2.out).mono ?_
  rintro e w3 ⟨A, n, c, ys, rfl, H3, HR3⟩
  have HNL := keep (show n ≤ 4096 from by have h1 := HR3.out.sr.2; have h2 := congrArg List.length HR3.out.ct; rw [List.length_map, List.length_map] at h2; have := HTL.out; omega)
  (try go_wp2_with fail)
  refine hK.out _ _ trivial (fun hHeld => ?_)
  clear hK K
  try simp only [aP, lA, lZ, lS]
  refine wpAnyH_ready (rs := [9]) (by kernel_rfl) (by simp) (AllReadyH.cons (o := ⟨some 25, _, _, _, _, _⟩) rfl (fun K hK => ?_) AllReadyH.nil)
  refine step_appendK (S := 12) (by decide) rfl (.tmp 19) (.tmp 24) 34 rfl w3.heap.size 41 i0 _ Tryz.underlying34 hi0 hz0 hz1 (by rfl) _ 0 [] rfl (own_zero _ _ _ _) A n c (flatF CZ.cells ys) rfl (by rw [flatF_len CZ.len]; rw [HR3.out.sr.2]) HR3.out.sr.1 (flatF_one CZ.one _) (by have := HNL.out; unfold maxLen; omega) (by have := HNL.out; rw [hz2]; omega) (Nat.le_refl _) ?_
  intro A5 c5 w5 ho5 hb5
  rw [List.nil_append, Nat.zero_add] at ho5
  have HB5 := keep hb5
  have HO5 := keep ho5.out
  clear ho5 hb5
  refine hK.out _ _ trivial (fun hHeld => ?_)
  clear hK K
  try simp only [aP, lA, lZ, lS]
  refine wT (i := 10) (oi := ⟨some 4, _, _, _, _, _⟩) (v := ?vt8x10) rfl (by kernel_rfl) (by kernel_rfl) (by kernel_rfl) (fun _ _ _ h => h) (Or.inl ⟨by rfl, ?hyt8x10⟩) (by assumption) ?restt8x10
  case hyt8x10 => (intro wz hSw; (try dsimp only at hSw); go_simp <;> try with_reducible rfl)
  try simp only [aP, lA, lZ, lS]
  refine wpAnyH_done (by kernel_rfl) ?_ _
  go_wp2
  go_ret
  have hs2 : w.heap.size ≤ (World.drew w1).heap.size := HL2.out.part.size
  have hs3 : w.heap.size ≤ w3.heap.size := Nat.le_trans hs2 H3.out.2.part.size
  have hr := (HR3.out.step HB5.out).base hs2
  refine ⟨A5, n, c5, ys, rfl, keep ⟨H3.out.1.step HB5.out, HL2.out.trans (H3.out.2.trans (Xl.below HB5.out))⟩, keep ⟨own_mono HO5.out hs3, hr.zs, hr.ct, hr.dl⟩⟩
structure TellS (w : World) (g : Xg) (x : Xm) (A : Option Addr) (c : Nat) (bl du : SL) (w' : World) : Prop where
  xa : XA w' { g with gv := .slice none 0 0 } { x with s := ⟨x.s.f, x.s.L, []⟩, ow := false }
  xl : Xl w g w' { g with gv := .slice none 0 0 }
  row : w'.ownsRow w.heap.size 41 12 (.slice A 1 c) 1 (sackC x.s.f (65536 - (x.j.oct : Int)) bl du)
  no : ∀ i, (Value.slice A 1 c).ownBlock = some i → ¬ Xg.O { g with gv := .slice none 0 0 } i
  len : bl.2.1 = 0
  dl : du.2.1 = x.s.T.length
  dr : w'.ownsRow 0 22 1 (.slice du.1 du.2.1 du.2.2) x.s.T.length (u32s x.s.T)
  dn : ∀ i, (Value.slice du.1 du.2.1 du.2.2).ownBlock = some i → ¬ Xg.O { g with gv := .slice none 0 0 } i
  old : ∀ i, (Value.slice du.1 du.2.1 du.2.2).ownBlock = some i → g.O i
set_option maxHeartbeats 8000000 in
theorem xTell_owed {w : World} {g : Xg} {x : Xm} (h : XA w g x) (how : x.ow = true) (he : x.q.es = []) (hL : x.s.L = []) (now : Int) (hpe : 0 ≤ x.pe ∧ x.pe ≤ 4294967296) (hR2 : x.ws.room 0 (max (x.pe - 0) 0) < 9223372036854775808) (hwa : 0 ≤ x.rs.wa ∧ x.rs.wa ≤ 1000000) :
    Calls Tryz.prog 8 #[.pointer (some ⟨g.b, 0, none⟩), .int .i64 now] w fun e w' => ∃ A c bl du, e = .returned (.slice A 1 c) ∧ Hid (TellS w g x A c bl du w') := by
  have hpl : PlainQ x.q := fun e hh => by rw [he] at hh; cases hh
  have KB := keep (xbounded_any now w)
  have KE := keep (xexpire_any h hpl (bd now))
  have KA := keep (fun W (H : XA W g x) => xanswer_any H how hL)
  have KF := keep (fun W (H : XA W { g with gv := .slice none 0 0 } { x with s := ⟨x.s.f, x.s.L, []⟩, ow := false }) => xflights_none H he (bd now) (bd_in now) hpe hR2 hwa)
  obtain ⟨i0, hi0, hz0, hz1, hz2⟩ := info_parts zchunk_info
  have c0 := h.c0
  obtain ⟨nw, hnw⟩ : ∃ nw, bd now = nw := ⟨_, rfl⟩
  rw [hnw] at KB KE KF
  have HG := keep (show ∀ i, g.gv.ownBlock = some i → g.O i from fun i hi => ⟨3, .inr (.inr hi)⟩)
  clear h how hpl hpe hR2 hwa hnw he hL
  go_enter Tryz.func8, Tryz.ntmps8
  go_wp2_with (first
    | (go_at_call 18; refine KB.out.mono ?_; rintro e w' ⟨rfl, rfl⟩)
    | (go_at_call 19; refine KE.out.mono ?_; rintro e w1 ⟨⟨z, rfl⟩, H1⟩))
  have H2 := keep H1.out.1.drew
  have HL2 := keep (H1.out.2.trans (Xl.below (Below.refl _ _).drew))
  refine wp_region_held_drew (S := (fun _ => True)) (by kernel_rfl) trivial (fun hHeld => ?_)
  refine wT (i := 0) (oi := ⟨some 16, _, _, _, _, _⟩) (v := ?vo1x0) rfl (by kernel_rfl) (by kernel_rfl) (by kernel_rfl) (fun _ _ _ h => h) (Or.inl ⟨by rfl, ?hyo1x0⟩) (by assumption) ?resto1x0
  case hyo1x0 => (intro wz hSw; (try dsimp only at hSw); go_simp <;> try with_reducible rfl)
  try simp only [aP, lA, lZ, lS]
  refine wT (i := 1) (oi := ⟨some 17, _, _, _, _, _⟩) (v := ?vo2x1) rfl (by kernel_rfl) (by kernel_rfl) (by kernel_rfl) (fun _ _ _ h => h) (Or.inl ⟨by rfl, ?hyo2x1⟩) (by assumption) ?resto2x1
  case hyo2x1 => (intro wz hSw; (try dsimp only at hSw); go_simp <;> try with_reducible rfl)
  try simp only [aP, lA, lZ, lS]
  refine wT (i := 2) (oi := ⟨some 18, _, _, _, _, _⟩) (v := ?vo3x2) rfl (by kernel_rfl) (by kernel_rfl) (by kernel_rfl) (fun _ _ _ h => h) (Or.inl ⟨by rfl, ?hyo3x2⟩) (by assumption) ?resto3x2
  case hyo3x2 => (intro wz hSw; (try dsimp only at hSw); go_simp <;> try with_reducible rfl)
  try simp only [aP, lA, lZ, lS]
  refine wT (i := 4) (oi := ⟨some 20, _, _, _, _, _⟩) (v := ?vo4x4) rfl (by kernel_rfl) (by kernel_rfl) (by kernel_rfl) (fun _ _ _ h => h) (Or.inl ⟨by rfl, ?hyo4x4⟩) (by assumption) ?resto4x4
  case hyo4x4 => (intro wz hSw; (try dsimp only at hSw); go_simp <;> try with_reducible rfl)
  try simp only [aP, lA, lZ, lS]
  refine wT (i := 5) (oi := ⟨some 21, _, _, _, _, _⟩) (v := ?vo5x5) rfl (by kernel_rfl) (by kernel_rfl) (by kernel_rfl) (fun _ _ _ h => h) (Or.inl ⟨by rfl, ?hyo5x5⟩) (by assumption) ?resto5x5
  case hyo5x5 => (intro wz hSw; (try dsimp only at hSw); go_simp <;> try with_reducible rfl)
  try simp only [aP, lA, lZ, lS]
  refine wT (i := 6) (oi := ⟨some 22, _, _, _, _, _⟩) (v := ?vo6x6) rfl (by kernel_rfl) (by kernel_rfl) (by kernel_rfl) (fun _ _ _ h => h) (Or.inl ⟨by rfl, ?hyo6x6⟩) (by assumption) ?resto6x6
  case hyo6x6 => (intro wz hSw; (try dsimp only at hSw); go_simp <;> try with_reducible rfl)
  try simp only [aP, lA, lZ, lS]
  refine wT (i := 7) (oi := ⟨some 23, _, _, _, _, _⟩) (v := ?vo7x7) rfl (by kernel_rfl) (by kernel_rfl) (by kernel_rfl) (fun _ _ _ h => h) (Or.inl ⟨by rfl, ?hyo7x7⟩) (by assumption) ?resto7x7
  case hyo7x7 => (intro wz hSw; (try dsimp only at hSw); go_simp <;> try with_reducible rfl)
  try simp only [aP, lA, lZ, lS]
  refine wpAnyH_ready (rs := [3]) (by kernel_rfl) (by simp) (AllReadyH.cons (o := ⟨some 19, _, _, _, _, _⟩) rfl (fun K hK => ?_) AllReadyH.nil)
  go_simp
  go_at_call 20
  refine (KA.out _ H2.out).mono ?_
  rintro e w2 ⟨r, bl, du, rfl, HA⟩
  (try go_wp2_with fail)
  refine hK.out _ _ trivial (fun hHeld => ?_)
  clear hK K
  try simp only [aP, lA, lZ, lS]
  refine wpAnyH_ready (rs := [8]) (by kernel_rfl) (by simp) (AllReadyH.cons (o := ⟨some 24, _, _, _, _, _⟩) rfl (fun K hK => ?_) AllReadyH.nil)
  go_simp
  go_at_call 21
  refine (KF.out _ HA.out.xa).mono ?_
  rintro e w3 ⟨A, c, rfl, H3⟩
  have HRow := keep (own_row12 (show w3.heap[r]? = some (.cells (sackC x.s.f (65536 - (x.j.oct : Int)) bl du).toArray 41 (0, 0)) from (H3.out.2.part.block r (Array.getElem?_eq_some_iff.1 HA.out.row).1 (fun ⟨k, hk⟩ => HA.out.no k hk)).trans HA.out.row) rfl)
  have hrl : r < w3.heap.size := Nat.lt_of_lt_of_le (Array.getElem?_eq_some_iff.1 HA.out.row).1 H3.out.2.part.size
  have HRL := keep hrl
  clear hrl
  (try go_wp2_with fail)
  refine hK.out _ _ trivial (fun hHeld => ?_)
  clear hK K
  try simp only [aP, lA, lZ, lS]
  refine wpAnyH_ready (rs := [9]) (by kernel_rfl) (by simp) (AllReadyH.cons (o := ⟨some 25, _, _, _, _, _⟩) rfl (fun K hK => ?_) AllReadyH.nil)
  refine step_appendK (S := 12) (by decide) rfl (.tmp 19) (.tmp 24) 34 rfl r 41 i0 _ Tryz.underlying34 hi0 hz0 hz1 (by rfl) _ 1 _ rfl HRow.out A 0 c [] rfl (by simp) (SR.nil _ _) (by intro u hu; cases hu) (by decide) (by rw [hz2]; decide) (Nat.le_of_lt HRL.out) ?_
  intro A5 c5 w5 ho5 hb5
  rw [List.append_nil] at ho5
  have HB5 := keep hb5
  have HO5 := keep ho5.out
  clear ho5 hb5
  refine hK.out _ _ trivial (fun hHeld => ?_)
  clear hK K
  try simp only [aP, lA, lZ, lS]
  refine wT (i := 10) (oi := ⟨some 4, _, _, _, _, _⟩) (v := ?vo8x10) rfl (by kernel_rfl) (by kernel_rfl) (by kernel_rfl) (fun _ _ _ h => h) (Or.inl ⟨by rfl, ?hyo8x10⟩) (by assumption) ?resto8x10
  case hyo8x10 => (intro wz hSw; (try dsimp only at hSw); go_simp <;> try with_reducible rfl)
  try simp only [aP, lA, lZ, lS]
  refine wpAnyH_done (by kernel_rfl) ?_ _
  go_wp2
  go_ret
  have hs2 : w.heap.size ≤ (World.drew w1).heap.size := HL2.out.part.size
  have hpt : Part (fun i => r ≤ i) w3 w5 := ⟨HB5.out.os, HB5.out.tape, HB5.out.output, HB5.out.size, fun i hi hn => HB5.out.block i (by omega)⟩
  have htop : ∀ i, Xg.O { g with gv := .slice none 0 0 } i → ¬ r ≤ i := fun i ⟨k, hk⟩ => by have := HA.out.top k i hk; omega
  have h32 := H3.out.2
  refine ⟨A5, c5, bl, du, rfl, keep ⟨H3.out.1.kept hpt htop, HL2.out.trans ⟨rfl, (HA.out.xl.trans h32).part.trans hpt fun i hi => .inr (Nat.le_trans HA.out.new hi), (HA.out.xl.trans h32).o⟩, own_mono HO5.out (Nat.le_trans hs2 HA.out.new), fun i hi ho => ?_, HA.out.len, ?_, ?_, fun i hi ⟨k, hk⟩ => HA.out.dn i hi k hk, fun i hi => HG.out i (by rw [HA.out.dv]; exact hi)⟩⟩
  · have h7 := (HO5.out.lt i hi).1
    exact htop i ho h7
  · obtain ⟨A7, c7, e7, _⟩ := own_is HA.out.dr
    injection e7 with _ e7 _
  · exact hpt.own (h32.part.own HA.out.dr fun i hi ⟨k, hk⟩ => HA.out.dn i hi k hk) fun i hi => by have := HA.out.dt i hi; omega
end
end Go.Proofs.YtnlkdlnmffibhaaGreat
