/- KBH of the stage: texts Xf5, Xf6, Xf7, joined. -/
import Derived.Test.YtnlkdlnmffibhaaGreatKBG
set_option linter.unusedSimpArgs false
set_option linter.unusedVariables false
set_option maxRecDepth 8000
namespace Go.Proofs.YtnlkdlnmffibhaaGreat
open List renaming setIfInBounds_toArray → lA, set_cons_zero → lZ, set_cons_succ → lS
open Go renaming wpAnyH_take → wT
open Go.Act renaming put → aP
section
open Go.RowKit Go.Maps
theorem XA.c18 {w : World} {g : Xg} {x : Xm} (h : XA w g x) : w.cell? ⟨g.b, 18, none⟩ = some (.pointer (some ⟨g.gb, 0, none⟩)) := h.at_ 18 _ rfl
theorem XA.c19 {w : World} {g : Xg} {x : Xm} (h : XA w g x) : w.cell? ⟨g.b, 19, none⟩ = some (.pointer (some ⟨g.J.b, 0, none⟩)) := h.at_ 19 _ rfl
theorem XA.c20 {w : World} {g : Xg} {x : Xm} (h : XA w g x) : w.cell? ⟨g.b, 20, none⟩ = some (.bool x.ow) := h.at_ 20 _ rfl
theorem XA.addS {w w' : World} {g : Xg} {x : Xm} (h : XA w g x) {s' : St} (ht : Turned w g.gb g.gk g.gv s'.f s'.L s'.T w') : ∃ v', XA w' { g with gv := v' } { x with s := s' } ∧ Xl w g w' { g with gv := v' } := by
  obtain ⟨v', h1, h2, h3⟩ := ht
  exact ⟨v', h.upS h1 (fun i hi => by
    rcases h2 with h2 | h2 | ⟨k, h2, h4⟩
    · exact .inl (h2 ▸ hi)
    · rw [h2] at hi; cases hi
    · rw [h2] at hi; injection hi with hi; exact .inr (hi ▸ h4)) h3 fun i hi => hi⟩
def sackC (f B : Int) (bl du : SL) : List Value := [.int .u8 3, .int .u8 0, .int .u32 f, .int .u32 B, .int .u16 0, .int .u16 0, .int .u32 0, .slice bl.1 bl.2.1 bl.2.2, .slice du.1 du.2.1 du.2.2, .slice none 0 0, .slice none 0 0, .slice none 0 0]
structure AnsP (w : World) (g : Xg) (x : Xm) (r : Nat) (bl du : SL) (w' : World) : Prop where
  xa : XA w' { g with gv := .slice none 0 0 } { x with s := ⟨x.s.f, x.s.L, []⟩, ow := false }
  xl : Xl w g w' { g with gv := .slice none 0 0 }
  row : w'.heap[r]? = some (.cells (sackC x.s.f (65536 - (x.j.oct : Int)) bl du).toArray 41 (0, 0))
  new : w.heap.size ≤ r
  no : ∀ k, ¬ Xg.S { g with gv := .slice none 0 0 } k r
  top : ∀ k i, Xg.S { g with gv := .slice none 0 0 } k i → i < r
  dt : ∀ i, (Value.slice du.1 du.2.1 du.2.2).ownBlock = some i → i < r
  len : bl.2.1 = 0
  dv : g.gv = .slice du.1 du.2.1 du.2.2
  dr : w'.ownsRow 0 22 1 (.slice du.1 du.2.1 du.2.2) x.s.T.length (u32s x.s.T)
  dn : ∀ i, (Value.slice du.1 du.2.1 du.2.2).ownBlock = some i → ∀ k, ¬ Xg.S { g with gv := .slice none 0 0 } k i
set_option maxHeartbeats 8000000 in
theorem xanswer_any {w : World} {g : Xg} {x : Xm} (h : XA w g x) (how : x.ow = true) (hL : x.s.L = []) :
    Calls Tryz.prog 20 #[.pointer (some ⟨g.b, 18, none⟩)] w fun e w' => ∃ r bl du, e = .returned (.slice (some ⟨r, 0, none⟩) 1 1) ∧ Hid (AnsP w g x r bl du w') := by
  have c20 := h.c20
  have f20 := h.fz 20
  rw [how] at c20
  obtain ⟨h1, hl1⟩ := h.put 20 (.bool false) { x with ow := false } rfl rfl rfl rfl rfl
  have H1 := keep h1
  have HL1 := keep hl1
  have c18 := h1.c18
  have c19 := h1.c19
  have HLL := keep hL
  obtain ⟨oc, hoc⟩ : ∃ oc, x.j.oct = oc := ⟨_, rfl⟩
  have HOC := keep hoc
  have ho0 : oc ≤ 65536 := by rw [← hoc]; exact h.jg.good.le
  have ho1 : (0 : Int) ≤ 65536 - (oc : Int) := by omega
  have hw1 : IntKind.i64.wrap (65536 - (oc : Int)) = 65536 - (oc : Int) := wrap_small ho1 (by omega)
  have hw2 : IntKind.u32.wrap (65536 - (oc : Int)) = 65536 - (oc : Int) := by simp [IntKind.wrap, IntKind.signed, IntKind.bits]; omega
  have hw3 : (65536 - (oc : Int)) % 4294967296 = 65536 - (oc : Int) := by omega
  obtain ⟨A2, c2, hv, _⟩ := own_is h.sa.row
  obtain ⟨tl, htl⟩ : ∃ tl, x.s.T.length = tl := ⟨_, rfl⟩
  rw [htl] at hv
  have HTL := keep htl
  have HV := keep hv
  have KC := keep (fun W (H : XA W g { x with ow := false }) => Cum_set H.sa)
  have KH := keep (fun W (H : XA W g { x with ow := false }) => Held_any H.jg.ja)
  have KB := keep (fun W (H : XA W g { x with ow := false }) => (Blocks_set sort_twelve H.sa (show x.s.L.length ≤ 12 by rw [hL]; decide)).mono (fun e w' hh => show ∃ A c, e = .returned (.slice A 0 c) ∧ Hid (Below W.heap.size W w') from by
    obtain ⟨A, c, rfl, h3, _, h5⟩ := hh
    have e0 : (runs x.s.L).length = 0 := by rw [hL]; rfl
    exact ⟨A, c, by rw [e0], keep h5⟩))
  have KD := keep (fun W (H : XA W g { x with ow := false }) => (Dups_set H.sa).mono (fun e w' hh => show e = .returned (.slice A2 tl c2) ∧ Hid (SetAt w' g.gb g.gk (.slice none 0 0) x.s.f x.s.L [] ∧ w'.ownsRow 0 22 1 (.slice A2 tl c2) x.s.T.length (u32s x.s.T) ∧ Part (fun i => i = g.gb) W w') from by
    obtain ⟨rfl, h3, h4, h5⟩ := hh
    rw [hv] at h4 ⊢
    exact ⟨rfl, keep ⟨h3, h4, h5⟩⟩))
  obtain ⟨sf, hsf⟩ : ∃ sf, x.s.f = sf := ⟨_, rfl⟩
  have HSF := keep hsf
  dsimp only at KC KH
  rw [hoc] at KH
  rw [hsf] at KC
  clear h how h1 hl1 hL hoc ho0 hv htl hsf
  go_enter Tryz.func20, Tryz.ntmps20
  go_wp2_with fail
  have H2 := keep H1.out.drew
  have HL2 := keep (HL1.out.trans (Xl.below (Below.refl _ _).drew))
  refine wp_region_held_drew (S := (fun w' => w'.cell? ⟨g.b, 18, none⟩ = some (.pointer (some ⟨g.gb, 0, none⟩)) ∧ w'.cell? ⟨g.b, 19, none⟩ = some (.pointer (some ⟨g.J.b, 0, none⟩)))) (by kernel_rfl) ⟨H2.out.c18, H2.out.c19⟩ (fun hHeld => ?_)
  refine wT (i := 0) (oi := ⟨some 11, _, _, _, _, _⟩) (v := ?va1x0) rfl (by kernel_rfl) (by kernel_rfl) (by kernel_rfl) (fun _ _ _ h => h) (Or.inl ⟨by rfl, ?hya1x0⟩) (by assumption) ?ra1x0
  case hya1x0 => (intro wz hSw; (try dsimp only at hSw); go_simp <;> try with_reducible rfl)
  try simp only [aP, lA, lZ, lS]
  refine wT (i := 1) (oi := ⟨some 12, _, _, _, _, _⟩) (v := ?va2x1) rfl (by kernel_rfl) (by kernel_rfl) (by kernel_rfl) (fun _ _ _ h => h) (Or.inl ⟨by rfl, ?hya2x1⟩) (by assumption) ?ra2x1
  case hya2x1 => (intro wz hSw; (try dsimp only at hSw); go_simp <;> try with_reducible rfl)
  try simp only [aP, lA, lZ, lS]
  refine wT (i := 2) (oi := ⟨some 13, _, _, _, _, _⟩) (v := ?va3x2) rfl (by kernel_rfl) (by kernel_rfl) (by kernel_rfl) (fun _ _ _ h => h) (Or.inl ⟨by rfl, ?hya3x2⟩) (by assumption) ?ra3x2
  case hya3x2 => (intro wz hSw; (try dsimp only at hSw); go_simp <;> try with_reducible rfl)
  try simp only [aP, lA, lZ, lS]
  refine wT (i := 3) (oi := ⟨some 14, _, _, _, _, _⟩) (v := ?va4x3) rfl (by kernel_rfl) (by kernel_rfl) (by kernel_rfl) (fun _ _ _ h => h) (Or.inl ⟨by rfl, ?hya4x3⟩) (by assumption) ?ra4x3
  case hya4x3 => (intro wz hSw; (try dsimp only at hSw); go_simp <;> try with_reducible rfl)
  try simp only [aP, lA, lZ, lS]
  refine wT (i := 5) (oi := ⟨some 16, _, _, _, _, _⟩) (v := ?va5x5) rfl (by kernel_rfl) (by kernel_rfl) (by kernel_rfl) (fun _ _ _ h => h) (Or.inl ⟨by rfl, ?hya5x5⟩) (by assumption) ?ra5x5
  case hya5x5 => (intro wz hSw; (try dsimp only at hSw); go_simp <;> try with_reducible rfl)
  try simp only [aP, lA, lZ, lS]
  refine wT (i := 6) (oi := ⟨some 17, _, _, _, _, _⟩) (v := ?va6x6) rfl (by kernel_rfl) (by kernel_rfl) (by kernel_rfl) (fun _ _ _ h => h) (Or.inl ⟨by rfl, ?hya6x6⟩) (by assumption) ?ra6x6
  case hya6x6 => (intro wz hSw; (try dsimp only at hSw); go_simp <;> try with_reducible rfl)
  try simp only [aP, lA, lZ, lS]
  refine wT (i := 7) (oi := ⟨some 18, _, _, _, _, _⟩) (v := ?va7x7) rfl (by kernel_rfl) (by kernel_rfl) (by kernel_rfl) (fun _ _ _ h => h) (Or.inl ⟨by rfl, ?hya7x7⟩) (by assumption) ?ra7x7
  case hya7x7 => (intro wz hSw; (try dsimp only at hSw); go_simp <;> try with_reducible rfl)
  try simp only [aP, lA, lZ, lS]
  refine wT (i := 8) (oi := ⟨some 19, _, _, _, _, _⟩) (v := ?va8x8) rfl (by kernel_rfl) (by kernel_rfl) (by kernel_rfl) (fun _ _ _ h => h) (Or.inl ⟨by rfl, ?hya8x8⟩) (by assumption) ?ra8x8
  case hya8x8 => (intro wz hSw; (try dsimp only at hSw); go_simp <;> try with_reducible rfl)
  try simp only [aP, lA, lZ, lS]
  refine wT (i := 12) (oi := ⟨some 23, _, _, _, _, _⟩) (v := ?va9x12) rfl (by kernel_rfl) (by kernel_rfl) (by kernel_rfl) (fun _ _ _ h => h) (Or.inl ⟨by rfl, ?hya9x12⟩) (by assumption) ?ra9x12
  case hya9x12 => (intro wz hSw; (try dsimp only at hSw); go_simp <;> try with_reducible rfl)
  try simp only [aP, lA, lZ, lS]
  refine wT (i := 13) (oi := ⟨some 24, _, _, _, _, _⟩) (v := ?va10x13) rfl (by kernel_rfl) (by kernel_rfl) (by kernel_rfl) (fun _ _ _ h => h) (Or.inl ⟨by rfl, ?hya10x13⟩) (by assumption) ?ra10x13
  case hya10x13 => (intro wz hSw; (try dsimp only at hSw); go_simp <;> try with_reducible rfl)
  try simp only [aP, lA, lZ, lS]
  refine wT (i := 14) (oi := ⟨some 25, _, _, _, _, _⟩) (v := ?va11x14) rfl (by kernel_rfl) (by kernel_rfl) (by kernel_rfl) (fun _ _ _ h => h) (Or.inl ⟨by rfl, ?hya11x14⟩) (by assumption) ?ra11x14
  case hya11x14 => (intro wz hSw; (try dsimp only at hSw); go_simp <;> try with_reducible rfl)
  try simp only [aP, lA, lZ, lS]
  refine wT (i := 15) (oi := ⟨some 26, _, _, _, _, _⟩) (v := ?va12x15) rfl (by kernel_rfl) (by kernel_rfl) (by kernel_rfl) (fun _ _ _ h => h) (Or.inl ⟨by rfl, ?hya12x15⟩) (by assumption) ?ra12x15
  case hya12x15 => (intro wz hSw; (try dsimp only at hSw); go_simp <;> try with_reducible rfl)
  try simp only [aP, lA, lZ, lS]
  refine wT (i := 17) (oi := ⟨some 28, _, _, _, _, _⟩) (v := ?va13x17) rfl (by kernel_rfl) (by kernel_rfl) (by kernel_rfl) (fun _ _ _ h => h) (Or.inl ⟨by rfl, ?hya13x17⟩) (by assumption) ?ra13x17
  case hya13x17 => (intro wz hSw; (try dsimp only at hSw); go_simp <;> try with_reducible rfl)
  try simp only [aP, lA, lZ, lS]
  refine wT (i := 18) (oi := ⟨some 29, _, _, _, _, _⟩) (v := ?va14x18) rfl (by kernel_rfl) (by kernel_rfl) (by kernel_rfl) (fun _ _ _ h => h) (Or.inl ⟨by rfl, ?hya14x18⟩) (by assumption) ?ra14x18
  case hya14x18 => (intro wz hSw; (try dsimp only at hSw); go_simp <;> try with_reducible rfl)
  try simp only [aP, lA, lZ, lS]
  refine wT (i := 19) (oi := ⟨some 30, _, _, _, _, _⟩) (v := ?va15x19) rfl (by kernel_rfl) (by kernel_rfl) (by kernel_rfl) (fun _ _ _ h => h) (Or.inl ⟨by rfl, ?hya15x19⟩) (by assumption) ?ra15x19
  case hya15x19 => (intro wz hSw; (try dsimp only at hSw); go_simp <;> try with_reducible rfl)
  try simp only [aP, lA, lZ, lS]
  refine wT (i := 20) (oi := ⟨some 31, _, _, _, _, _⟩) (v := ?va16x20) rfl (by kernel_rfl) (by kernel_rfl) (by kernel_rfl) (fun _ _ _ h => h) (Or.inl ⟨by rfl, ?hya16x20⟩) (by assumption) ?ra16x20
  case hya16x20 => (intro wz hSw; (try dsimp only at hSw); go_simp <;> try with_reducible rfl)
  try simp only [aP, lA, lZ, lS]
  refine wpAnyH_ready (rs := [4]) (by kernel_rfl) (by simp) (AllReadyH.cons (o := ⟨some 15, _, _, _, _, _⟩) rfl (fun K hK => ?_) AllReadyH.nil)
  go_simp
  go_at_call 39
  refine (KC.out _ H2.out).mono ?_
  rintro e w' ⟨rfl, rfl⟩
  (try go_wp2_with fail)
  refine hK.out _ _ ⟨H2.out.c18, H2.out.c19⟩ (fun hHeld => ?_)
  clear hK K
  try simp only [aP, lA, lZ, lS]
  refine wpAnyH_ready (rs := [9]) (by kernel_rfl) (by simp) (AllReadyH.cons (o := ⟨some 20, _, _, _, _, _⟩) rfl (fun K hK => ?_) AllReadyH.nil)
  go_simp
  go_at_call 40
  refine (KH.out _ H2.out).mono ?_
  rintro e w' ⟨rfl, rfl⟩
  (try go_wp2_with fail)
  refine hK.out _ _ ⟨H2.out.c18, H2.out.c19⟩ (fun hHeld => ?_)
  clear hK K
  try simp only [aP, lA, lZ, lS]
  refine wT (i := 10) (oi := ⟨some 21, _, _, _, _, _⟩) (v := ?va17x10) rfl (by kernel_rfl) (by kernel_rfl) (by kernel_rfl) (fun _ _ _ h => h) (Or.inl ⟨by rfl, ?hya17x10⟩) (by assumption) ?ra17x10
  case hya17x10 => (intro wz hSw; (try dsimp only at hSw); go_simp <;> try with_reducible rfl)
  try simp only [aP, lA, lZ, lS]
  refine wT (i := 11) (oi := ⟨some 22, _, _, _, _, _⟩) (v := ?va18x11) rfl (by kernel_rfl) (by kernel_rfl) (by kernel_rfl) (fun _ _ _ h => h) (Or.inl ⟨by rfl, ?hya18x11⟩) (by assumption) ?ra18x11
  case hya18x11 => (intro wz hSw; (try dsimp only at hSw); go_simp <;> try with_reducible rfl)
  try simp only [aP, lA, lZ, lS]
  refine wpAnyH_ready (rs := [16]) (by kernel_rfl) (by simp) (AllReadyH.cons (o := ⟨some 27, _, _, _, _, _⟩) rfl (fun K hK => ?_) AllReadyH.nil)
  go_simp
  go_at_call 41
  refine (KB.out _ H2.out).mono ?_
  rintro e w3 ⟨B1, B3, rfl, hb3⟩
  have H3 := keep (H2.out.step hb3.out)
  have HL3 := keep (HL2.out.trans (Xl.below hb3.out))
  clear hb3
  (try go_wp2_with fail)
  refine hK.out _ _ ⟨H3.out.c18, H3.out.c19⟩ (fun hHeld => ?_)
  clear hK K
  try simp only [aP, lA, lZ, lS]
  refine wpAnyH_ready (rs := [21]) (by kernel_rfl) (by simp) (AllReadyH.cons (o := ⟨some 32, _, _, _, _, _⟩) rfl (fun K hK => ?_) AllReadyH.nil)
  go_simp
  go_at_call 42
  refine (KD.out _ H3.out).mono ?_
  rintro e w4 ⟨rfl, hd⟩
  have H4 := keep (H3.out.upS (s' := ⟨x.s.f, x.s.L, []⟩) hd.out.1 (fun i hi => by cases hi) hd.out.2.2 (fun i hi => .inl hi))
  have HD4 := keep hd.out.2.1
  clear hd
  (try go_wp2_with fail)
  refine hK.out _ _ ⟨H4.out.1.c18, H4.out.1.c19⟩ (fun hHeld => ?_)
  clear hK K
  try simp only [aP, lA, lZ, lS]
  refine wT (i := 22) (oi := ⟨some 33, _, _, _, _, _⟩) (v := ?va19x22) rfl (by kernel_rfl) (by kernel_rfl) (by kernel_rfl) (fun _ _ _ h => h) (Or.inl ⟨by rfl, ?hya19x22⟩) (by assumption) ?ra19x22
  case hya19x22 => (intro wz hSw; (try dsimp only at hSw); go_simp <;> try with_reducible rfl)
  try simp only [aP, lA, lZ, lS]
  refine wpAnyH_ready (rs := [23]) (by kernel_rfl) (by simp) (AllReadyH.cons (o := ⟨some 34, _, _, _, _, _⟩) rfl (fun K hK => ?_) AllReadyH.nil)
  go_simp
  refine hK.out _ _ ⟨(H4.out.1.step (below_lay _ _)).c18, (H4.out.1.step (below_lay _ _)).c19⟩ (fun hHeld => ?_)
  clear hK K
  try simp only [aP, lA, lZ, lS]
  refine wT (i := 24) (oi := ⟨some 2, _, _, _, _, _⟩) (v := ?va20x24) rfl (by kernel_rfl) (by kernel_rfl) (by kernel_rfl) (fun _ _ _ h => h) (Or.inl ⟨by rfl, ?hya20x24⟩) (by assumption) ?ra20x24
  case hya20x24 => (intro wz hSw; (try dsimp only at hSw); go_simp <;> try with_reducible rfl)
  try simp only [aP, lA, lZ, lS]
  refine wpAnyH_done (by kernel_rfl) ?_ _
  go_wp2
  go_ret
  have hx := H4.out.1
  refine ⟨w4.heap.size, (B1, 0, B3), (A2, tl, c2), rfl, keep ⟨hx.step (below_lay _ _), HL3.out.trans (H4.out.2.trans (Xl.below (below_lay _ _))), ?_, Nat.le_trans HL3.out.part.size H4.out.2.part.size, fun k hk => Nat.lt_irrefl _ (hx.lt k _ hk), fun k i hk => hx.lt k i hk, fun i hi => (HD4.out.lt i hi).2, rfl, HV.out, own_step HD4.out (below_lay _ _), fun i hi k hk => ?_⟩⟩
  · rw [HSF.out, HOC.out]
    exact heap_alloc_new w4 _
  · have h3 : g.gv.ownBlock = some i := by rw [HV.out]; exact hi
    by_cases hk3 : k = 3
    · subst hk3
      rcases hk with e | e | e
      · exact (H3.out.sa.row_ne h3).1 e
      · exact (H3.out.sa.row_ne h3).2.1 e
      · cases e
    · refine H3.out.ap k 3 i hk3 ?_ (.inr (.inr h3))
      match k, hk, hk3 with
      | 0, hk, _ => exact hk
      | 1, hk, _ => exact hk
      | 2, hk, _ => exact hk
      | 3, _, h => exact absurd rfl h
      | 4, hk, _ => exact hk
      | _ + 5, hk, _ => exact hk.elim
end
section
open Go.RowKit Go.Maps
def PlainQ (q : Qm) : Prop := ∀ e ∈ q.es, q.mg e.m = ⟨-1, -1, false⟩ ∧ (e.st = 0 ∨ e.st = 1)
theorem exB_plain (now : Int) (e : En) : expB now e ⟨-1, -1, false⟩ = false := by unfold expB; simp
theorem exM_plain {q : Qm} (h : PlainQ q) (now : Int) : ∀ i, exM now q.es q.mg i = q.mg ∧ exN now q.es q.mg i = 0
  | 0 => ⟨rfl, rfl⟩
  | i + 1 => by
    obtain ⟨h1, h2⟩ := exM_plain h now i
    cases he : q.es[i]? with
    | none =>
      rw [exM, exN, he]
      exact ⟨h1, by simp [h2]⟩
    | some e =>
      have hn : ¬ exC now (exM now q.es q.mg i) e = true := by
        rw [h1]
        unfold exC
        rw [(h e (List.mem_of_getElem? he)).1, exB_plain]
        simp
      obtain ⟨e1, e2⟩ := exM_no he hn
      rw [e1, e2]
      exact ⟨h1, h2⟩
theorem gv_plain {q : Qm} (h : PlainQ q) : q.es.map (gvE q.mg) = q.es := by
  have : ∀ l : List En, (∀ e ∈ l, q.mg e.m = ⟨-1, -1, false⟩) → l.map (gvE q.mg) = l := fun l => by
    induction l with
    | nil => intro _; rfl
    | cons e r ih =>
      intro hl
      rw [List.map_cons, ih fun x hx => hl x (List.mem_cons_of_mem _ hx)]
      congr 1
      unfold gvE
      rw [hl e (List.mem_cons_self ..), if_neg]
      rintro ⟨_, h1⟩
      cases h1
  exact this q.es fun e he => (h e he).1
theorem dn_plain {q : Qm} (h : PlainQ q) : dnN q.es = 0 := by
  unfold dnN
  cases hq : q.es with
  | nil => rfl
  | cons e r =>
    have h1 := (h e (by rw [hq]; exact List.mem_cons_self ..)).2
    have h2 : openB e = true := by unfold openB; rcases h1 with h1 | h1 <;> rw [h1] <;> rfl
    rw [List.takeWhile_cons_of_neg (by rw [h2]; decide)]
    rfl
theorem xexpire_any {w : World} {g : Xg} {x : Xm} (h : XA w g x) (hp : PlainQ x.q) (now : Int) : Calls Tryz.prog 19 #[.pointer (some ⟨g.Q.b, 0, none⟩), .int .i64 now] w fun e w' => (∃ z, e = .returned (.int .i64 z)) ∧ Hid (XA w' g x ∧ Xl w g w' g) := by
  refine (Expire_any h.qa now).mono ?_
  rintro e w' ⟨rfl, h1, h2⟩
  obtain ⟨e1, _⟩ := exM_plain hp now x.q.es.length
  rw [e1, gv_plain hp] at h1
  exact ⟨⟨_, rfl⟩, keep (h.upQ (q' := x.q) h1 h.nu h2)⟩
theorem xqforward_any {w : World} {g : Xg} {x : Xm} (h : XA w g x) (hp : PlainQ x.q) : Calls Tryz.prog 74 #[.pointer (some ⟨g.Q.b, 0, none⟩)] w fun e w' => ∃ n s1 s2 s3, e = .returned (.tuple #[.int .u32 n, .slice s1 s2 s3, .bool false]) ∧ Hid (Below w.heap.size w w') := by
  refine (Forward_any h.qa).mono ?_
  rintro e w' ⟨s, rfl, h1, h2⟩
  rw [dn_plain hp]
  exact ⟨_, s.1, s.2.1, s.2.2, rfl, keep h1⟩
set_option maxHeartbeats 2000000 in
theorem xforward_any {w : World} {g : Xg} {x : Xm} (h : XA w g x) (hp : PlainQ x.q) : Calls Tryz.prog 43 #[.pointer (some ⟨g.b, 0, none⟩)] w fun e w' => e = .returned (.slice none 0 0) ∧ Hid (Below w.heap.size w w') := by
  have c0 := h.c0
  have KF := keep (xqforward_any h hp)
  clear h hp
  go_enter Tryz.func43, Tryz.ntmps43
  go_wp2_with (first | (go_at_call 74; refine KF.out.mono ?_; rintro e w1 ⟨n, s1, s2, s3, rfl, hb⟩))
  have HB := keep ((up hb.out (below_lay w1 (.cells #[.int .u32 n, .bool true] 64))).drew)
  refine wp_region_held_drew (S := (fun _ => True)) (by kernel_rfl) trivial (fun hHeld => ?_)
  refine wT (i := 0) (oi := ⟨some 18, _, _, _, _, _⟩) (v := ?vf1x0) rfl (by kernel_rfl) (by kernel_rfl) (by kernel_rfl) (fun _ _ _ h => h) (Or.inl ⟨by rfl, ?hyf1x0⟩) (by assumption) ?restf1x0
  case hyf1x0 => (intro wz hSw; (try dsimp only at hSw); go_simp <;> try with_reducible rfl)
  try simp only [aP, lA, lZ, lS]
  refine wT (i := 1) (oi := ⟨some 19, _, _, _, _, _⟩) (v := ?vf2x1) rfl (by kernel_rfl) (by kernel_rfl) (by kernel_rfl) (fun _ _ _ h => h) (Or.inl ⟨by rfl, ?hyf2x1⟩) (by assumption) ?restf2x1
  case hyf2x1 => (intro wz hSw; (try dsimp only at hSw); go_simp <;> try with_reducible rfl)
  try simp only [aP, lA, lZ, lS]
  refine wT (i := 2) (oi := ⟨some 20, _, _, _, _, _⟩) (v := ?vf3x2) rfl (by kernel_rfl) (by kernel_rfl) (by kernel_rfl) (fun _ _ _ h => h) (Or.inl ⟨by rfl, ?hyf3x2⟩) (by assumption) ?restf3x2
  case hyf3x2 => (intro wz hSw; (try dsimp only at hSw); go_simp <;> try with_reducible rfl)
  try simp only [aP, lA, lZ, lS]
  refine wT (i := 3) (oi := ⟨some 21, _, _, _, _, _⟩) (v := undef) rfl (by kernel_rfl) (by kernel_rfl) (by kernel_rfl) (fun _ _ _ h => h) (Or.inr ⟨by rfl, rfl⟩) (by assumption) ?_
  try simp only [aP, lA, lZ, lS]
  refine wT (i := 4) (oi := ⟨some 22, _, _, _, _, _⟩) (v := undef) rfl (by kernel_rfl) (by kernel_rfl) (by kernel_rfl) (fun _ _ _ h => h) (Or.inr ⟨by rfl, rfl⟩) (by assumption) ?_
  try simp only [aP, lA, lZ, lS]
  refine wT (i := 5) (oi := ⟨some 23, _, _, _, _, _⟩) (v := undef) rfl (by kernel_rfl) (by kernel_rfl) (by kernel_rfl) (fun _ _ _ h => h) (Or.inr ⟨by rfl, rfl⟩) (by assumption) ?_
  try simp only [aP, lA, lZ, lS]
  refine wT (i := 6) (oi := ⟨some 24, _, _, _, _, _⟩) (v := undef) rfl (by kernel_rfl) (by kernel_rfl) (by kernel_rfl) (fun _ _ _ h => h) (Or.inr ⟨by rfl, rfl⟩) (by assumption) ?_
  try simp only [aP, lA, lZ, lS]
  refine wT (i := 7) (oi := ⟨some 25, _, _, _, _, _⟩) (v := undef) rfl (by kernel_rfl) (by kernel_rfl) (by kernel_rfl) (fun _ _ _ h => h) (Or.inr ⟨by rfl, rfl⟩) (by assumption) ?_
  try simp only [aP, lA, lZ, lS]
  refine wT (i := 8) (oi := ⟨some 26, _, _, _, _, _⟩) (v := undef) rfl (by kernel_rfl) (by kernel_rfl) (by kernel_rfl) (fun _ _ _ h => h) (Or.inr ⟨by rfl, rfl⟩) (by assumption) ?_
  try simp only [aP, lA, lZ, lS]
  refine wT (i := 9) (oi := ⟨some 27, _, _, _, _, _⟩) (v := ?vf4x9) rfl (by kernel_rfl) (by kernel_rfl) (by kernel_rfl) (fun _ _ _ h => h) (Or.inl ⟨by rfl, ?hyf4x9⟩) (by assumption) ?restf4x9
  case hyf4x9 => (intro wz hSw; (try dsimp only at hSw); go_simp <;> try with_reducible rfl)
  try simp only [aP, lA, lZ, lS]
  refine wpAnyH_done (by kernel_rfl) ?_ _
  go_wp2
  go_ret
  exact ⟨rfl, HB⟩
theorem xflying_any {w : World} {g : Xg} {x : Xm} (h : XA w g x) {f : Nat} (hf : octs x.q.es [1] = f) : Calls Tryz.prog 46 #[.pointer (some ⟨g.Q.b, 0, none⟩)] w fun e w' => e = .returned (.int .i64 (f : Int)) ∧ Hid (Below w.heap.size w w') := by
  subst hf
  refine (Flying_any h.qa).mono ?_
  rintro e w' ⟨rfl, h1⟩
  exact ⟨rfl, keep h1⟩
theorem XA.win {w : World} {g : Xg} {x : Xm} (h : XA w g x) : w.cell? ⟨g.b, 1, none⟩ = some (.int .i64 x.ws.cw) ∧ w.cell? ⟨g.b, 2, none⟩ = some (.int .i64 x.ws.th) ∧ w.cell? ⟨g.b, 3, none⟩ = some (.int .i64 x.ws.pa) ∧ w.cell? ⟨g.b, 4, none⟩ = some (.int .i64 x.ws.mt) ∧ w.cell? ⟨g.b, 5, none⟩ = some (.bool x.ws.re) ∧ w.cell? ⟨g.b, 6, none⟩ = some (.int .u32 x.ws.ex) := ⟨h.at_ 1 _ rfl, h.at_ 2 _ rfl, h.at_ 3 _ rfl, h.at_ 4 _ rfl, h.at_ 5 _ rfl, h.at_ 6 _ rfl⟩
theorem XA.c13 {w : World} {g : Xg} {x : Xm} (h : XA w g x) : w.cell? ⟨g.b, 13, none⟩ = some (.int .i64 x.pe) := h.at_ 13 _ rfl
theorem XA.c12 {w : World} {g : Xg} {x : Xm} (h : XA w g x) : w.cell? ⟨g.b, 12, none⟩ = some (.bool x.ru) := h.at_ 12 _ rfl
set_option maxHeartbeats 4000000 in
theorem xroom_any {w : World} {g : Xg} {x : Xm} (h : XA w g x) {f : Nat} (hf : octs x.q.es [1] = f) (hf1 : f ≤ 65536) (hpe : 0 ≤ x.pe ∧ x.pe ≤ 4294967296) {p R : Int} (hp : max (x.pe - (f : Int)) 0 = p) (hR : x.ws.room f p = R) :
    Calls Tryz.prog 45 #[.pointer (some ⟨g.b, 0, none⟩)] w fun e w' => e = .returned (.int .i64 R) ∧ Hid (Below w.heap.size w w') := by
  have c0 := h.c0
  have H0 := keep h
  have KF := keep (xflying_any h hf)
  have KR := keep (fun W => Room_any x.ws (f : Int) p (by omega) W)
  obtain ⟨⟨cw, th, pa, mt, re, ex⟩, hws⟩ : ∃ z, x.ws = z := ⟨_, rfl⟩
  rw [hR, hws] at KR
  have HWS := keep hws
  obtain ⟨pe, hpe'⟩ : ∃ pe, x.pe = pe := ⟨_, rfl⟩
  have HPE := keep hpe'
  rw [hpe'] at hpe hp
  have hw1 : IntKind.i64.wrap (pe - (f : Int)) = pe - (f : Int) := (wrap_in _ (by omega)).1
  have hcell : ∀ W, XA W g x → (W.cell? ⟨g.b, 1, none⟩ = some (.int .i64 cw) ∧ W.cell? ⟨g.b, 2, none⟩ = some (.int .i64 th) ∧ W.cell? ⟨g.b, 3, none⟩ = some (.int .i64 pa) ∧ W.cell? ⟨g.b, 4, none⟩ = some (.int .i64 mt) ∧ W.cell? ⟨g.b, 5, none⟩ = some (.bool re) ∧ W.cell? ⟨g.b, 6, none⟩ = some (.int .u32 ex)) ∧ W.cell? ⟨g.b, 13, none⟩ = some (.int .i64 pe) := fun W H => by
    have h1 := H.win
    rw [hws] at h1
    have h2 := H.c13
    rw [hpe'] at h2
    exact ⟨h1, h2⟩
  have HCL := keep hcell
  have hmx : (if pe - (f : Int) < 0 then 0 else pe - (f : Int)) = p := by rw [← hp]; split <;> omega
  have HMX := keep (And.intro hp hmx)
  clear h hf hpe' hR hws hcell hpe hf1 hp hmx
  dsimp only [WS.cells] at KR
  go_enter Tryz.func45, Tryz.ntmps45
  go_wp2_with (first | (go_at_call 46; refine KF.out.mono ?_; rintro e w1 ⟨rfl, hb⟩))
  have H1 := keep (H0.out.step hb.out).drew
  have HB1 := keep hb.out.drew
  refine wp_region_held_drew (S := (fun w' => (w'.cell? ⟨g.b, 1, none⟩ = some (.int .i64 cw) ∧ w'.cell? ⟨g.b, 2, none⟩ = some (.int .i64 th) ∧ w'.cell? ⟨g.b, 3, none⟩ = some (.int .i64 pa) ∧ w'.cell? ⟨g.b, 4, none⟩ = some (.int .i64 mt) ∧ w'.cell? ⟨g.b, 5, none⟩ = some (.bool re) ∧ w'.cell? ⟨g.b, 6, none⟩ = some (.int .u32 ex)) ∧ w'.cell? ⟨g.b, 13, none⟩ = some (.int .i64 pe))) (by kernel_rfl) (HCL.out _ H1.out) (fun hHeld => ?_)
  refine wT (i := 0) (oi := ⟨some 9, _, _, _, _, _⟩) (v := ?vr1x0) rfl (by kernel_rfl) (by kernel_rfl) (by kernel_rfl) (fun _ _ _ h => h) (Or.inl ⟨by rfl, ?hyr1x0⟩) (by assumption) ?restr1x0
  case hyr1x0 => (intro wz hSw; (try dsimp only at hSw); go_simp <;> try with_reducible rfl)
  try simp only [aP, lA, lZ, lS]
  refine wT (i := 1) (oi := ⟨some 10, _, _, _, _, _⟩) (v := ?vr2x1) rfl (by kernel_rfl) (by kernel_rfl) (by kernel_rfl) (fun _ _ _ h => h) (Or.inl ⟨by rfl, ?hyr2x1⟩) (by assumption) ?restr2x1
  case hyr2x1 => (intro wz hSw; (try dsimp only at hSw); go_simp <;> try with_reducible rfl)
  try simp only [aP, lA, lZ, lS]
  refine wT (i := 2) (oi := ⟨some 11, _, _, _, _, _⟩) (v := ?vr3x2) rfl (by kernel_rfl) (by kernel_rfl) (by kernel_rfl) (fun _ _ _ h => h) (Or.inl ⟨by rfl, ?hyr3x2⟩) (by assumption) ?restr3x2
  case hyr3x2 => (intro wz hSw; (try dsimp only at hSw); go_simp <;> try with_reducible rfl)
  try simp only [aP, lA, lZ, lS]
  refine wT (i := 3) (oi := ⟨some 12, _, _, _, _, _⟩) (v := ?vr4x3) rfl (by kernel_rfl) (by kernel_rfl) (by kernel_rfl) (fun _ _ _ h => h) (Or.inl ⟨by rfl, ?hyr4x3⟩) (by assumption) ?restr4x3
  case hyr4x3 => (intro wz hSw; (try dsimp only at hSw); go_simp <;> try with_reducible rfl)
  try simp only [aP, lA, lZ, lS]
  refine wT (i := 4) (oi := ⟨some 13, _, _, _, _, _⟩) (v := ?vr5x4) rfl (by kernel_rfl) (by kernel_rfl) (by kernel_rfl) (fun _ _ _ h => h) (Or.inl ⟨by rfl, ?hyr5x4⟩) (by assumption) ?restr5x4
  case hyr5x4 => (intro wz hSw; (try dsimp only at hSw); go_simp <;> try with_reducible rfl)
  try simp only [aP, lA, lZ, lS]
  refine wT (i := 5) (oi := ⟨some 14, _, _, _, _, _⟩) (v := ?vr6x5) rfl (by kernel_rfl) (by kernel_rfl) (by kernel_rfl) (fun _ _ _ h => h) (Or.inl ⟨by rfl, ?hyr6x5⟩) (by assumption) ?restr6x5
  case hyr6x5 => (intro wz hSw; (try dsimp only at hSw); go_simp <;> try with_reducible rfl)
  try simp only [aP, lA, lZ, lS]
  refine wT (i := 6) (oi := ⟨some 15, _, _, _, _, _⟩) (v := ?vr7x6) rfl (by kernel_rfl) (by kernel_rfl) (by kernel_rfl) (fun _ _ _ h => h) (Or.inl ⟨by rfl, ?hyr7x6⟩) (by assumption) ?restr7x6
  case hyr7x6 => (intro wz hSw; (try dsimp only at hSw); go_simp <;> try with_reducible rfl)
  try simp only [aP, lA, lZ, lS]
  refine wT (i := 7) (oi := ⟨some 16, _, _, _, _, _⟩) (v := ?vr8x7) rfl (by kernel_rfl) (by kernel_rfl) (by kernel_rfl) (fun _ _ _ h => h) (Or.inl ⟨by rfl, ?hyr8x7⟩) (by assumption) ?restr8x7
  case hyr8x7 => (intro wz hSw; (try dsimp only at hSw); go_simp <;> try with_reducible rfl)
  try simp only [aP, lA, lZ, lS]
  refine wT (i := 8) (oi := ⟨some 17, _, _, _, _, _⟩) (v := ?vr9x8) rfl (by kernel_rfl) (by kernel_rfl) (by kernel_rfl) (fun _ _ _ h => h) (Or.inl ⟨by rfl, ?hyr9x8⟩) (by assumption) ?restr9x8
  case hyr9x8 => (intro wz hSw; (try dsimp only at hSw); go_simp <;> try with_reducible rfl)
  try simp only [aP, lA, lZ, lS]
  refine wT (i := 9) (oi := ⟨some 18, _, _, _, _, _⟩) (v := ?vr10x9) rfl (by kernel_rfl) (by kernel_rfl) (by kernel_rfl) (fun _ _ _ h => h) (Or.inl ⟨by rfl, ?hyr10x9⟩) (by assumption) ?restr10x9
  case hyr10x9 => (intro wz hSw; (try dsimp only at hSw); go_simp <;> try with_reducible rfl)
  try simp only [aP, lA, lZ, lS]
  refine wT (i := 10) (oi := ⟨some 19, _, _, _, _, _⟩) (v := ?vr11x10) rfl (by kernel_rfl) (by kernel_rfl) (by kernel_rfl) (fun _ _ _ h => h) (Or.inl ⟨by rfl, ?hyr11x10⟩) (by assumption) ?restr11x10
  case hyr11x10 => (intro wz hSw; (try dsimp only at hSw); go_simp <;> try with_reducible rfl)
  try simp only [aP, lA, lZ, lS]
  refine wT (i := 11) (oi := ⟨some 20, _, _, _, _, _⟩) (v := ?vr12x11) rfl (by kernel_rfl) (by kernel_rfl) (by kernel_rfl) (fun _ _ _ h => h) (Or.inl ⟨by rfl, ?hyr12x11⟩) (by assumption) ?restr12x11
  case hyr12x11 => (intro wz hSw; (try dsimp only at hSw); go_simp <;> try with_reducible rfl)
  try simp only [aP, lA, lZ, lS]
  refine wpAnyH_ready (rs := [12]) (by kernel_rfl) (by simp) (AllReadyH.cons (o := ⟨some 21, _, _, _, _, _⟩) rfl (fun K hK => ?_) AllReadyH.nil)
  go_simp
  go_at_call 77
  (try rw [HMX.out.1])
  (try rw [HMX.out.2])
  refine (KR.out _).mono ?_
  rintro e w2 ⟨rfl, hb2⟩
  have H2 := keep (H1.out.step hb2)
  have HB2 := keep (HB1.out.trans (hb2.mono HB1.out.size))
  (try go_wp2_with fail)
  refine hK.out _ _ (HCL.out _ H2.out) (fun hHeld => ?_)
  clear hK K
  try simp only [aP, lA, lZ, lS]
  refine wT (i := 13) (oi := ⟨some 2, _, _, _, _, _⟩) (v := ?vr13x13) rfl (by kernel_rfl) (by kernel_rfl) (by kernel_rfl) (fun _ _ _ h => h) (Or.inl ⟨by rfl, ?hyr13x13⟩) (by assumption) ?restr13x13
  case hyr13x13 => (intro wz hSw; (try dsimp only at hSw); go_simp <;> try with_reducible rfl)
  try simp only [aP, lA, lZ, lS]
  refine wpAnyH_done (by kernel_rfl) ?_ _
  go_wp2
  go_ret
  exact ⟨rfl, HB2⟩
end
section
open Go.RowKit Go.Maps
theorem XA.c9 {w : World} {g : Xg} {x : Xm} (h : XA w g x) : w.cell? ⟨g.b, 9, none⟩ = some (.int .i64 x.rs.wa) := h.at_ 9 _ rfl
theorem XA.c11 {w : World} {g : Xg} {x : Xm} (h : XA w g x) : w.cell? ⟨g.b, 11, none⟩ = some (.int .i64 x.tm) := h.at_ 11 _ rfl
theorem xstart_any {w : World} {g : Xg} {x : Xm} (h : XA w g x) (now : Int) (h0 : 0 ≤ now ∧ now ≤ 1099511627776) (hw : 0 ≤ x.rs.wa ∧ x.rs.wa ≤ 1000000) : Calls Tryz.prog 47 #[.pointer (some ⟨g.b, 0, none⟩), .int .i64 now] w fun e w' => e = .returned (.tuple #[]) ∧ Hid (XA w' g { x with tm := now + x.rs.wa, ru := true } ∧ Xl w g w' g) := by
  have c9 := h.c9
  have c11 := h.c11
  have c12 := h.c12
  have f11 := h.fz 11
  have f12 := h.fz 12
  have hw1 : IntKind.i64.wrap (now + x.rs.wa) = now + x.rs.wa := wrap_small (by omega) (by omega)
  have hw2 : wrap64 (now + x.rs.wa) = now + x.rs.wa := by rw [show wrap64 (now + x.rs.wa) = IntKind.i64.wrap (now + x.rs.wa) from ((wrap_in _ (by omega)).2.trans (wrap_in _ (by omega)).1.symm)]; exact hw1
  obtain ⟨a1, l1⟩ := h.put 11 (.int .i64 (now + x.rs.wa)) { x with tm := now + x.rs.wa } rfl rfl rfl rfl rfl
  obtain ⟨a2, l2⟩ := a1.put 12 (.bool true) { x with tm := now + x.rs.wa, ru := true } rfl rfl rfl rfl rfl
  have HA := keep (And.intro a2 (l1.trans l2))
  clear a1 a2 l1 l2 h h0 hw
  obtain ⟨z, hz⟩ : ∃ z, now + x.rs.wa = z := ⟨_, rfl⟩
  rw [hz] at HA hw1 hw2 ⊢
  go_enter Tryz.func47, Tryz.ntmps47
  go_wp2
  exact bodyPost_end (results_none rfl _ _ _) rfl ⟨rfl, HA⟩
structure RowP (w w' : World) (q : Qm) (now R : Int) (A : Option Addr) (n c : Nat) (ys : List CZ) : Prop where
  row : w'.ownsRow w.heap.size 41 12 (.slice A n c) n (flatF CZ.cells ys)
  zs : ∀ y ∈ ys, ZV w' y ∧ (∀ k, adB y k → w.heap.size ≤ k ∧ k < w'.heap.size)
  ct : ys.map CZ.ct = (takeQ q now R).2.map CZ.ct
  dl : ys.map (fun y => y.da.2.1) = (takeQ q now R).2.map (fun y => y.da.2.1)
theorem RowP.step {w w' w2 : World} {q : Qm} {now R : Int} {A : Option Addr} {n c : Nat} {ys : List CZ} (h : RowP w w' q now R A n c ys) (hb : Below w'.heap.size w' w2) : RowP w w2 q now R A n c ys :=
  ⟨own_step h.row hb, fun y hy => ⟨(h.zs y hy).1.step hb, fun k hk => ⟨((h.zs y hy).2 k hk).1, Nat.lt_of_lt_of_le ((h.zs y hy).2 k hk).2 hb.size⟩⟩, h.ct, h.dl⟩
theorem RowP.part {w w' w2 : World} {S : Nat → Prop} {q : Qm} {now R : Int} {A : Option Addr} {n c : Nat} {ys : List CZ} (h : RowP w w' q now R A n c ys) (hp : Part S w' w2) (hS : ∀ i, S i → i < w.heap.size) : RowP w w2 q now R A n c ys :=
  ⟨hp.own h.row fun k hk hs => by have := (h.row.lt k hk).1; have := hS k hs; omega, fun y hy => ⟨(h.zs y hy).1.kept (Kpt.of_part (ok := fun i => w.heap.size ≤ i) hp fun k hk hs => by have := hS k hs; omega) (adB.inf fun k hk => ((h.zs y hy).2 k hk).1), fun k hk => ⟨((h.zs y hy).2 k hk).1, Nat.lt_of_lt_of_le ((h.zs y hy).2 k hk).2 hp.size⟩⟩, h.ct, h.dl⟩
theorem RowP.base {w0 w w' : World} {q : Qm} {now R : Int} {A : Option Addr} {n c : Nat} {ys : List CZ} (h : RowP w w' q now R A n c ys) (hb : w0.heap.size ≤ w.heap.size) : RowP w0 w' q now R A n c ys :=
  ⟨own_mono h.row hb, fun y hy => ⟨(h.zs y hy).1, fun k hk => ⟨Nat.le_trans hb ((h.zs y hy).2 k hk).1, ((h.zs y hy).2 k hk).2⟩⟩, h.ct, h.dl⟩
theorem xtake_any {w : World} {g : Xg} {x : Xm} (h : XA w g x) (now R : Int) (hR : R < 9223372036854775808) : Calls Tryz.prog 44 #[.pointer (some ⟨g.Q.b, 0, none⟩), .int .i64 now, .int .i64 R] w fun e w' => ∃ A n c ys, e = .returned (.slice A n c) ∧ Hid (XA w' g { x with q := tkQ x.q now R } ∧ Xl w g w' g) ∧ Hid (RowP w w' x.q now R A n c ys) := by
  refine (Take_any h.qa now R hR).mono ?_
  rintro e w' ⟨s, ys, rfl, h1⟩
  exact ⟨s.1, s.2.1, s.2.2, ys, rfl, keep (h.upQ (q' := tkQ x.q now R) h1.qa (take_nums h.nu now R) h1.lt), keep ⟨h1.row, fun y hy => ⟨(h1.zs y hy).1, (h1.zs y hy).2.1⟩, h1.ct, h1.dl⟩⟩
theorem RowP.sr {w w' : World} {q : Qm} {now R : Int} {A : Option Addr} {n c : Nat} {ys : List CZ} (h : RowP w w' q now R A n c ys) : SR w' A (flatF CZ.cells ys) ∧ n = ys.length := by
  have h1 := h.row.1
  rw [flatF_len CZ.len] at h1
  exact ⟨SR.own h.row, by omega⟩
theorem take_few (q : Qm) (now R : Int) (hql : q.es.length ≤ 1024) : (takeQ q now R).2.length ≤ 4096 := by
  have h1 : ∀ (k n : Nat) (i : Nat) (es : List En) (r : Int) (t : List CZ), (takeGo now n k i es r t).2.length ≤ t.length + k := by
    intro k
    induction k with
    | zero => intro n i es r t; exact Nat.le_refl _
    | succ k ih =>
      intro n i es r t
      rw [takeGo]
      split
      · exact Nat.le_add_right t.length (k + 1)
      · split
        · split
          · exact Nat.le_add_right t.length (k + 1)
          · refine Nat.le_trans (ih _ _ _ _ _) ?_
            rw [List.length_append, List.length_singleton]
            omega
        · exact Nat.le_trans (ih _ _ _ _ _) (by omega)
  have h2 := h1 (q.es.length + q.es.length) q.es.length 0 q.es R []
  rw [List.length_nil] at h2
  exact Nat.le_trans h2 (by omega)
set_option maxHeartbeats 8000000 in
theorem xflights_any {w : World} {g : Xg} {x : Xm} (h : XA w g x) (hpl : PlainQ x.q) (now : Int) (hnow : 0 ≤ now ∧ now ≤ 1099511627776) {f : Nat} (hf : octs x.q.es [1] = f) (hf1 : f ≤ 65536) (hpe : 0 ≤ x.pe ∧ x.pe ≤ 4294967296) {p R : Int} (hp : max (x.pe - (f : Int)) 0 = p) (hR : x.ws.room f p = R) (hR2 : R < 9223372036854775808) (hwa : 0 ≤ x.rs.wa ∧ x.rs.wa ≤ 1000000)
    {f2 : Nat} (hf2 : octs (tkQ x.q now R).es [1] = f2) (hway : x.ru = true ∨ x.ru = false ∧ 0 < (takeQ x.q now R).2.length ∨ x.ru = false ∧ (takeQ x.q now R).2.length = 0 ∧ f2 = 0) (hql : x.q.es.length ≤ 1024) :
    Calls Tryz.prog 21 #[.pointer (some ⟨g.b, 0, none⟩), .int .i64 now] w fun e w' => ∃ A n c ys, e = .returned (.slice A n c) ∧ Hid (XA w' g { x with q := tkQ x.q now R, tm := (if x.ru = false ∧ 0 < n then now + x.rs.wa else x.tm), ru := (if x.ru = false ∧ 0 < n then true else x.ru) } ∧ Xl w g w' g) ∧ Hid (RowP w w' x.q now R A n c ys) := by
  have H0 := keep h
  have KF := keep (xforward_any h hpl)
  have KR := keep (fun W (H : XA W g x) => xroom_any H hf hf1 hpe hp hR)
  have KT := keep (fun W (H : XA W g x) => xtake_any H now R hR2)
  have KFl := keep (fun W (H : XA W g { x with q := tkQ x.q now R }) => xflying_any H hf2)
  have KSt := keep (fun W (H : XA W g { x with q := tkQ x.q now R }) => xstart_any H now hnow hwa)
  obtain ⟨i0, hi0, hz0, hz1, hz2⟩ := info_parts zchunk_info
  have hlen := take_few x.q now R hql
  have HLE := keep hlen
  have HW := keep hway
  have HPL := keep hpl
  have HOL := keep (show ∀ i, g.O i → i < w.heap.size from fun i hi => h.olt hi)
  have c0 := h.c0
  clear h hpl hf hf1 hpe hp hR hR2 hf2 hway hql hlen
  go_enter Tryz.func21, Tryz.ntmps21
  go_wp2_with fail
  have H1 := keep H0.out.drew
  have HB1 := keep (Below.refl w.heap.size w).drew
  refine wp_region_held_drew (S := (fun w' => w'.cell? ⟨g.b, 0, none⟩ = some (.pointer (some ⟨g.Q.b, 0, none⟩)))) (by kernel_rfl) H1.out.c0 (fun hHeld => ?_)
  refine wT (i := 0) (oi := ⟨some 6, _, _, _, _, _⟩) (v := ?va1x0) rfl (by kernel_rfl) (by kernel_rfl) (by kernel_rfl) (fun _ _ _ h => h) (Or.inl ⟨by rfl, ?hya1x0⟩) (by assumption) ?ra1x0
  case hya1x0 => (intro wz hSw; (try dsimp only at hSw); go_simp <;> try with_reducible rfl)
  try simp only [aP, lA, lZ, lS]
  refine wT (i := 2) (oi := ⟨some 8, _, _, _, _, _⟩) (v := ?va2x2) rfl (by kernel_rfl) (by kernel_rfl) (by kernel_rfl) (fun _ _ _ h => h) (Or.inl ⟨by rfl, ?hya2x2⟩) (by assumption) ?ra2x2
  case hya2x2 => (intro wz hSw; (try dsimp only at hSw); go_simp <;> try with_reducible rfl)
  try simp only [aP, lA, lZ, lS]
  refine wT (i := 3) (oi := ⟨some 9, _, _, _, _, _⟩) (v := ?va3x3) rfl (by kernel_rfl) (by kernel_rfl) (by kernel_rfl) (fun _ _ _ h => h) (Or.inl ⟨by rfl, ?hya3x3⟩) (by assumption) ?ra3x3
  case hya3x3 => (intro wz hSw; (try dsimp only at hSw); go_simp <;> try with_reducible rfl)
  try simp only [aP, lA, lZ, lS]
  refine wT (i := 4) (oi := ⟨some 10, _, _, _, _, _⟩) (v := ?va4x4) rfl (by kernel_rfl) (by kernel_rfl) (by kernel_rfl) (fun _ _ _ h => h) (Or.inl ⟨by rfl, ?hya4x4⟩) (by assumption) ?ra4x4
  case hya4x4 => (intro wz hSw; (try dsimp only at hSw); go_simp <;> try with_reducible rfl)
  try simp only [aP, lA, lZ, lS]
  refine wT (i := 5) (oi := ⟨some 11, _, _, _, _, _⟩) (v := ?va5x5) rfl (by kernel_rfl) (by kernel_rfl) (by kernel_rfl) (fun _ _ _ h => h) (Or.inl ⟨by rfl, ?hya5x5⟩) (by assumption) ?ra5x5
  case hya5x5 => (intro wz hSw; (try dsimp only at hSw); go_simp <;> try with_reducible rfl)
  try simp only [aP, lA, lZ, lS]
  refine wT (i := 6) (oi := ⟨some 12, _, _, _, _, _⟩) (v := ?va6x6) rfl (by kernel_rfl) (by kernel_rfl) (by kernel_rfl) (fun _ _ _ h => h) (Or.inl ⟨by rfl, ?hya6x6⟩) (by assumption) ?ra6x6
  case hya6x6 => (intro wz hSw; (try dsimp only at hSw); go_simp <;> try with_reducible rfl)
  try simp only [aP, lA, lZ, lS]
  refine wT (i := 7) (oi := ⟨some 13, _, _, _, _, _⟩) (v := ?va7x7) rfl (by kernel_rfl) (by kernel_rfl) (by kernel_rfl) (fun _ _ _ h => h) (Or.inl ⟨by rfl, ?hya7x7⟩) (by assumption) ?ra7x7
  case hya7x7 => (intro wz hSw; (try dsimp only at hSw); go_simp <;> try with_reducible rfl)
  try simp only [aP, lA, lZ, lS]
  refine wpAnyH_ready (rs := [1]) (by kernel_rfl) (by simp) (AllReadyH.cons (o := ⟨some 7, _, _, _, _, _⟩) rfl (fun K hK => ?_) AllReadyH.nil)
  go_simp
  go_at_call 43
  refine (xforward_any H1.out HPL.out).mono ?_
  rintro e w2 ⟨rfl, hb2⟩
  have H2 := keep (H1.out.step hb2.out)
  have HB2 := keep (HB1.out.trans (hb2.out.mono HB1.out.size))
  clear hb2
  (try go_wp2_with fail)
  refine hK.out _ _ H2.out.c0 (fun hHeld => ?_)
  clear hK K
  try simp only [aP, lA, lZ, lS]
  refine wpAnyH_ready (rs := [8]) (by kernel_rfl) (by simp) (AllReadyH.cons (o := ⟨some 14, _, _, _, _, _⟩) rfl (fun K hK => ?_) AllReadyH.nil)
  go_simp
  go_at_call 45
  refine (KR.out _ H2.out).mono ?_
  rintro e w3 ⟨rfl, hb3⟩
  have H3 := keep (H2.out.step hb3.out)
  have HB3 := keep (HB2.out.trans (hb3.out.mono HB2.out.size))
  clear hb3
  (try go_wp2_with fail)
  refine hK.out _ _ H3.out.c0 (fun hHeld => ?_)
  clear hK K
  try simp only [aP, lA, lZ, lS]
  refine wpAnyH_ready (rs := [9]) (by kernel_rfl) (by simp) (AllReadyH.cons (o := ⟨some 15, _, _, _, _, _⟩) rfl (fun K hK => ?_) AllReadyH.nil)
  go_simp
  go_at_call 44
  refine (KT.out _ H3.out).mono ?_
  rintro e w4 ⟨A, n, c, ys, rfl, H4, HR4⟩
  (try go_wp2_with fail)
  refine hK.out _ _ H4.out.1.c0 (fun hHeld => ?_)
  clear hK K
  try simp only [aP, lA, lZ, lS]
  have HNL := keep (show n ≤ 4096 from by have h1 := HR4.out.sr.2; have h2 := congrArg List.length HR4.out.ct; rw [List.length_map, List.length_map] at h2; have := HLE.out; omega)
  refine wpAnyH_ready (rs := [10]) (by kernel_rfl) (by simp) (AllReadyH.cons (o := ⟨some 16, _, _, _, _, _⟩) rfl (fun K hK => ?_) AllReadyH.nil)
  refine step_appendK (S := 12) (by decide) rfl (.tmp 7) (.tmp 15) 34 rfl w4.heap.size 41 i0 _ Tryz.underlying34 hi0 hz0 hz1 (by rfl) _ 0 [] rfl (own_zero _ _ _ _) A n c (flatF CZ.cells ys) rfl (by rw [flatF_len CZ.len]; rw [HR4.out.sr.2]) HR4.out.sr.1 (flatF_one CZ.one _) (by have := HNL.out; unfold maxLen; omega) (by have := HNL.out; rw [hz2]; omega) (Nat.le_refl _) ?_
  intro A5 c5 w5 ho5 hb5
  rw [List.nil_append, Nat.zero_add] at ho5
  have H5 := keep (H4.out.1.step hb5)
  have HB5 := keep hb5
  have HO5 := keep ho5.out
  clear ho5 hb5
  refine hK.out _ _ H5.out.c0 (fun hHeld => ?_)
  clear hK K
  try simp only [aP, lA, lZ, lS]
  refine wT (i := 11) (oi := ⟨some 5, _, _, _, _, _⟩) (v := ?va8x11) rfl (by kernel_rfl) (by kernel_rfl) (by kernel_rfl) (fun _ _ _ h => h) (Or.inl ⟨by rfl, ?hya8x11⟩) (by assumption) ?ra8x11
  case hya8x11 => (intro wz hSw; (try dsimp only at hSw); go_simp <;> try with_reducible rfl)
  try simp only [aP, lA, lZ, lS]
  refine wpAnyH_done (by kernel_rfl) ?_ _
  have HXX := keep (show Hid (XA w5 g { x with q := tkQ x.q now R } ∧ Xl w g w5 g) ∧ Hid (RowP w w5 x.q now R A5 n c5 ys) from by
    have e1 := H4.out.2
    have b4 := HB3.out.size
    refine ⟨keep ⟨H5.out, (Xl.below HB3.out).trans (e1.trans (Xl.below HB5.out))⟩, keep ?_⟩
    have h4 := (HR4.out.step HB5.out).base b4
    have b5 := HR4.out.row
    refine ⟨own_mono HO5.out ?_, h4.zs, h4.ct, h4.dl⟩
    exact Nat.le_trans b4 (by have := H4.out.2.part.size; exact this))
  have HN5 := keep (show n = (takeQ x.q now R).2.length from by
    have h1 := HR4.out.sr.2
    have h2 := congrArg List.length HR4.out.ct
    rw [List.length_map, List.length_map] at h2
    omega)
  have c12 := H5.out.c12
  have c0 := H5.out.c0
  dsimp only at c12 c0
  have KS5 := keep (KSt.out _ H5.out)
  have KF5 := keep (KFl.out _ H5.out)
  rcases HW.out with hr | ⟨hr, hn⟩ | ⟨hr, hn, hf0⟩
  · rw [hr] at c12
    go_wp2
    all_goals go_ret
    all_goals refine ⟨A5, n, c5, ys, rfl, keep ?_, HXX.out.2⟩
    all_goals rw [if_neg (fun hh => by rw [hr] at hh; cases hh.1), if_neg (fun hh => by rw [hr] at hh; cases hh.1)]
    all_goals exact HXX.out.1.out
  · rw [hr] at c12
    have hn0 : (0 : Int) < (n : Int) := by have := HN5.out; omega
    have HP := keep (show 0 < n by have := HN5.out; omega)
    have HRr := keep hr
    clear hn hr
    go_wp2_with (first | (go_at_call 47; refine KS5.out.mono ?_; rintro e w6 ⟨rfl, H6⟩))
    all_goals go_ret
    all_goals refine ⟨A5, n, c5, ys, rfl, keep ?_, keep (HXX.out.2.out.part H6.out.2.part fun i hi => HOL.out i hi)⟩
    all_goals rw [if_pos ⟨HRr.out, HP.out⟩, if_pos ⟨HRr.out, HP.out⟩]
    all_goals exact ⟨H6.out.1, HXX.out.1.out.2.trans H6.out.2⟩
  · rw [hr] at c12
    have hn0 : n = 0 := by have := HN5.out; omega
    have HRr := keep hr
    clear hn hr
    subst hn0
    rw [hf0] at KF5
    clear hf0
    go_wp2_with (first | (go_at_call 46; refine KF5.out.mono ?_; rintro e w6 ⟨rfl, hb6⟩))
    all_goals go_ret
    all_goals refine ⟨A5, 0, c5, ys, rfl, keep ?_, keep (HXX.out.2.out.step hb6.out)⟩
    all_goals rw [if_neg (fun hh => absurd hh.2 (by decide)), if_neg (fun hh => absurd hh.2 (by decide))]
    all_goals exact ⟨HXX.out.1.out.1.step hb6.out, HXX.out.1.out.2.trans (Xl.below hb6.out)⟩
end
end Go.Proofs.YtnlkdlnmffibhaaGreat
