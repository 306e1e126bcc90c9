/- KBJ of the stage: texts Xf4, joined. -/
import Derived.Test.YtnlkdlnmffibhaaGreatKBH
set_option linter.unusedSimpArgs false
set_option linter.unusedVariables false
set_option maxRecDepth 8000
namespace Go.Proofs.YtnlkdlnmffibhaaGreat
open List renaming setIfInBounds_toArray → lA, set_cons_zero → lZ, set_cons_succ → lS
open Go renaming wpAnyH_take → wT
open Go.Act renaming put → aP
section
open Go.RowKit Go.Maps
theorem xheight_any {w : World} {g : Xg} {x : Xm} (h : XA w g x) (n : Int) : Calls Tryz.prog 61 #[.pointer (some ⟨g.b, 18, none⟩), .int .u32 n] w fun e w' => e = .returned (.int .u32 ((n - x.s.f) % 4294967296)) ∧ w = w' := by
  have c18 := h.c18
  have KC := keep (Cum_set h.sa)
  clear h
  go_enter Tryz.func61, Tryz.ntmps61
  go_wp2_with (first | (go_at_call 39; refine KC.out.mono ?_; rintro e w' ⟨rfl, rfl⟩))
  go_ret
  exact ⟨rfl, rfl⟩
theorem CK.step {w w' : World} {b : Nat} {c : CX} (h : CK w b c) (hb : Below w.heap.size w w') : CK w' b c := blk_step h hb
theorem CK.drew {w : World} {b : Nat} {c : CX} (h : CK w b c) : CK w.drew b c := h
theorem CK.xl {w w' : World} {g g' : Xg} {b : Nat} {c : CX} (h : CK w b c) (hl : Xl w g w' g') (hn : ¬ g.O b) : CK w' b c := (hl.part.block b h.lt hn).trans h
theorem xjadd {w : World} {g : Xg} {x : Xm} (h : XA w g x) {c : CX} (hc : CV w c) (he : addE x.j c.c0 = 0) {J1 : Jn} (hj : ∀ j', Came x.j c.c0 j' → j' = J1) :
    Calls Tryz.prog 80 #[.pointer (some ⟨g.J.b, 0, none⟩), .agg c.cells.toArray] w fun e w' => e = .returned (.int .i64 0) ∧ ∃ J', J'.b = g.J.b ∧ Hid (XA w' { g with J := J' } { x with j := J1 } ∧ Xl w g w' { g with J := J' }) := by
  refine (Add_any h.jg.ja h.jg.good h.jg.ends hc).mono fun e w' hA => ?_
  obtain ⟨r, j', G', rfl, hr, hj', hl⟩ := AddP.good hc h.jg.good hA
  obtain ⟨rfl, _, h2⟩ := hr
  obtain rfl := hj j' (h2 he)
  exact ⟨by rw [he], G', hl.b, keep (h.upJ hj' hl)⟩
set_option maxHeartbeats 4000000 in
theorem xhold_one {w : World} {g : Xg} {x : Xm} (h : XA w g x) {c : CX} (hc : CV w c) (hh : (c.a - x.s.f) % 4294967296 = 1) (he : addE x.j c.c0 = 0) {J1 : Jn} (hj : ∀ j', Came x.j c.c0 j' → j' = J1) :
    Calls Tryz.prog 54 #[.pointer (some ⟨g.b, 18, none⟩), .agg c.cells.toArray] w fun e w' => e = .returned (.int .i64 0) ∧ ∃ J', J'.b = g.J.b ∧ Hid (XA w' { g with J := J' } { x with j := J1 } ∧ Xl w g w' { g with J := J' }) := by
  have hb0 := below_lay w (.cells c.cells.toArray 41)
  have H0 := keep (h.step hb0)
  have HB0 := keep hb0
  have HCK := keep (show CK (w.alloc (.cells c.cells.toArray 41)) w.heap.size c from heap_alloc_new w _)
  have KH := keep (xheight_any (h.step hb0) c.a)
  have KA := keep (fun W (H : XA W g x) (hb : Below w.heap.size w W) => xjadd H (hc.step hb) he hj)
  have HNO := keep (show ¬ g.O w.heap.size from fun ho => absurd (h.olt ho) (Nat.lt_irrefl _))
  rw [hh] at KH
  clear h hc hb0 hh he hj
  obtain ⟨ck, cf, ca, cb, co, cs, cp, ⟨x1, x2, x3⟩, ⟨x4, x5, x6⟩, ⟨x7, x8, x9⟩, ⟨x10, x11, x12⟩, ⟨x13, x14, x15⟩, cps, cbs⟩ := c
  obtain ⟨d0, d1, d2, d3, d4, d5, d6, d7, d8, d9, d10, d11⟩ := HCK.out.all.1
  dsimp only [CX.cells] at d0 d1 d2 d3 d4 d5 d6 d7 d8 d9 d10 d11 KA KH H0 HB0 HCK ⊢
  go_enter Tryz.func54, Tryz.ntmps54
  go_wp2_with (first
    | (go_at_call 61; refine KH.out.mono ?_; rintro e w' ⟨rfl, rfl⟩))
  have H1 := keep H0.out.drew
  have HC1 := keep HCK.out.drew
  have HB1 := keep HB0.out.drew
  refine wp_region_held_drew (S := (fun w' => w'.cell? ⟨g.b, 19, none⟩ = some (.pointer (some ⟨g.J.b, 0, none⟩)) ∧ (w'.cell? ⟨w.heap.size, 0, none⟩ = some (.int .u8 ck) ∧ w'.cell? ⟨w.heap.size, 1, none⟩ = some (.int .u8 cf) ∧ w'.cell? ⟨w.heap.size, 2, none⟩ = some (.int .u32 ca) ∧ w'.cell? ⟨w.heap.size, 3, none⟩ = some (.int .u32 cb) ∧ w'.cell? ⟨w.heap.size, 4, none⟩ = some (.int .u16 co) ∧ w'.cell? ⟨w.heap.size, 5, none⟩ = some (.int .u16 cs) ∧ w'.cell? ⟨w.heap.size, 6, none⟩ = some (.int .u32 cp) ∧ w'.cell? ⟨w.heap.size, 7, none⟩ = some (.slice x1 x2 x3) ∧ w'.cell? ⟨w.heap.size, 8, none⟩ = some (.slice x4 x5 x6) ∧ w'.cell? ⟨w.heap.size, 9, none⟩ = some (.slice x7 x8 x9) ∧ w'.cell? ⟨w.heap.size, 10, none⟩ = some (.slice x10 x11 x12) ∧ w'.cell? ⟨w.heap.size, 11, none⟩ = some (.slice x13 x14 x15)))) (by kernel_rfl) ⟨H1.out.c19, HC1.out.all.1⟩ (fun hHeld => ?_)
  refine wT (i := 0) (oi := ⟨some 10, _, _, _, _, _⟩) (v := ?vh1x0) rfl (by kernel_rfl) (by kernel_rfl) (by kernel_rfl) (fun _ _ _ h => h) (Or.inl ⟨by rfl, ?hyh1x0⟩) (by assumption) ?resth1x0
  case hyh1x0 => (intro wz hSw; (try dsimp only at hSw); go_simp <;> try with_reducible rfl)
  try simp only [aP, lA, lZ, lS]
  refine wT (i := 1) (oi := ⟨some 11, _, _, _, _, _⟩) (v := ?vh2x1) rfl (by kernel_rfl) (by kernel_rfl) (by kernel_rfl) (fun _ _ _ h => h) (Or.inl ⟨by rfl, ?hyh2x1⟩) (by assumption) ?resth2x1
  case hyh2x1 => (intro wz hSw; (try dsimp only at hSw); go_simp <;> try with_reducible rfl)
  try simp only [aP, lA, lZ, lS]
  refine wT (i := 2) (oi := ⟨some 12, _, _, _, _, _⟩) (v := ?vh3x2) rfl (by kernel_rfl) (by kernel_rfl) (by kernel_rfl) (fun _ _ _ h => h) (Or.inl ⟨by rfl, ?hyh3x2⟩) (by assumption) ?resth3x2
  case hyh3x2 => (intro wz hSw; (try dsimp only at hSw); go_simp <;> try with_reducible rfl)
  try simp only [aP, lA, lZ, lS]
  refine wT (i := 3) (oi := ⟨some 13, _, _, _, _, _⟩) (v := ?vh4x3) rfl (by kernel_rfl) (by kernel_rfl) (by kernel_rfl) (fun _ _ _ h => h) (Or.inl ⟨by rfl, ?hyh4x3⟩) (by assumption) ?resth4x3
  case hyh4x3 => (intro wz hSw; (try dsimp only at hSw); go_simp <;> try with_reducible rfl)
  try simp only [aP, lA, lZ, lS]
  refine wT (i := 4) (oi := ⟨some 14, _, _, _, _, _⟩) (v := ?vh5x4) rfl (by kernel_rfl) (by kernel_rfl) (by kernel_rfl) (fun _ _ _ h => h) (Or.inl ⟨by rfl, ?hyh5x4⟩) (by assumption) ?resth5x4
  case hyh5x4 => (intro wz hSw; (try dsimp only at hSw); go_simp <;> try with_reducible rfl)
  try simp only [aP, lA, lZ, lS]
  refine wpAnyH_ready (rs := [5]) (by kernel_rfl) (by simp) (AllReadyH.cons (o := ⟨some 15, _, _, _, _, _⟩) rfl (fun K hK => ?_) AllReadyH.nil)
  go_simp
  go_at_call 80
  refine (KA.out _ H1.out HB1.out).mono ?_
  rintro e w2 ⟨rfl, J', hJ, H2⟩
  have HC2 := keep (HC1.out.xl H2.out.2 HNO.out)
  have c19 := H2.out.1.c19
  dsimp only at c19
  rw [hJ] at c19
  have HJ := keep hJ
  clear hJ
  (try go_wp2_with fail)
  refine hK.out _ _ ⟨c19, HC2.out.all.1⟩ (fun hHeld => ?_)
  clear hK K
  try simp only [aP, lA, lZ, lS]
  refine wT (i := 6) (oi := ⟨some 4, _, _, _, _, _⟩) (v := ?vh6x6) rfl (by kernel_rfl) (by kernel_rfl) (by kernel_rfl) (fun _ _ _ h => h) (Or.inl ⟨by rfl, ?hyh6x6⟩) (by assumption) ?resth6x6
  case hyh6x6 => (intro wz hSw; (try dsimp only at hSw); go_simp <;> try with_reducible rfl)
  try simp only [aP, lA, lZ, lS]
  refine wpAnyH_done (by kernel_rfl) ?_ _
  go_wp2
  go_ret
  exact ⟨rfl, J', HJ.out, keep ⟨H2.out.1, (Xl.below HB1.out).trans H2.out.2⟩⟩
theorem xhas {w : World} {g : Xg} {x : Xm} (h : XA w g x) {n : Int} (hn : 0 ≤ n ∧ n < 4294967296) {b : Bool} (hb : had x.s.f x.s.L n = b) : Calls Tryz.prog 53 #[.pointer (some ⟨g.gb, 0, none⟩), .int .u32 n] w fun e w' => e = .returned (.bool b) ∧ Hid (Below w.heap.size w w') := by
  subst hb
  exact (Has_set h.sa hn.1 hn.2).mono fun e w' hh => ⟨hh.1, keep hh.2⟩
theorem xsadd {w : World} {g : Xg} {x : Xm} (h : XA w g x) {n : Int} (hn : 0 ≤ n ∧ n < 4294967296) : Calls Tryz.prog 55 #[.pointer (some ⟨g.gb, 0, none⟩), .int .u32 n] w fun e w' => e = .returned (.int .i64 (x.s.told n)) ∧ ∃ v', Hid (XA w' { g with gv := v' } { x with s := x.s.add n } ∧ Xl w g w' { g with gv := v' }) := by
  refine (Add_set h.sa hn.1 hn.2).mono fun e w' hh => ?_
  obtain ⟨v', h2⟩ := h.addS (s' := x.s.add n) hh.2
  exact ⟨hh.1, v', keep h2⟩
set_option maxHeartbeats 4000000 in
theorem xreceive_new {w : World} {g : Xg} {x : Xm} (h : XA w g x) {c : CX} (hc : CV w c) (hh : (c.a - x.s.f) % 4294967296 = 1) (hd : had x.s.f x.s.L c.a = false) (he : addE x.j c.c0 = 0) {J1 : Jn} (hj : ∀ j', Came x.j c.c0 j' → j' = J1) :
    Calls Tryz.prog 26 #[.pointer (some ⟨g.b, 18, none⟩), .agg c.cells.toArray] w fun e w' => e = .returned (.int .i64 0) ∧ ∃ J' v', Hid (XA w' { { g with J := J' } with gv := v' } { x with j := J1, s := x.s.add c.a, ow := true } ∧ Xl w g w' { { g with J := J' } with gv := v' }) := by
  have hb0 := below_lay w (.cells c.cells.toArray 41)
  have H0 := keep (h.step hb0)
  have HB0 := keep hb0
  have HCK := keep (show CK (w.alloc (.cells c.cells.toArray 41)) w.heap.size c from heap_alloc_new w _)
  have KHa := keep (fun W (H : XA W g x) => xhas H hc.a hd)
  have KHo := keep (fun W (H : XA W g x) (hb : Below w.heap.size w W) => xhold_one H (hc.step hb) hh he hj)
  have KS := keep (fun W G X (H : XA W G X) => xsadd (g := G) (x := X) H hc.a)
  have HNO := keep (show ¬ g.O w.heap.size from fun ho => absurd (h.olt ho) (Nat.lt_irrefl _))
  clear h hc hb0 hd hh he hj
  obtain ⟨ck, cf, ca, cb, co, cs, cp, ⟨x1, x2, x3⟩, ⟨x4, x5, x6⟩, ⟨x7, x8, x9⟩, ⟨x10, x11, x12⟩, ⟨x13, x14, x15⟩, cps, cbs⟩ := c
  obtain ⟨d0, d1, d2, d3, d4, d5, d6, d7, d8, d9, d10, d11⟩ := HCK.out.all.1
  dsimp only [CX.cells] at d0 d1 d2 d3 d4 d5 d6 d7 d8 d9 d10 d11 KHa KS H0 HB0 HCK KHo ⊢
  go_enter Tryz.func26, Tryz.ntmps26
  go_wp2_with fail
  have H1 := keep H0.out.drew
  have HC1 := keep HCK.out.drew
  have HB1 := keep HB0.out.drew
  refine wp_region_held_drew (S := (fun w' => w'.cell? ⟨g.b, 18, none⟩ = some (.pointer (some ⟨g.gb, 0, none⟩)) ∧ w'.cell? ⟨w.heap.size, 2, none⟩ = some (.int .u32 ca))) (by kernel_rfl) ⟨H1.out.c18, HC1.out.all.1.2.2.1⟩ (fun hHeld => ?_)
  refine wT (i := 0) (oi := ⟨some 6, _, _, _, _, _⟩) (v := ?vvn1x0) rfl (by kernel_rfl) (by kernel_rfl) (by kernel_rfl) (fun _ _ _ h => h) (Or.inl ⟨by rfl, ?hyvn1x0⟩) (by assumption) ?restvn1x0
  case hyvn1x0 => (intro wz hSw; (try dsimp only at hSw); go_simp <;> try with_reducible rfl)
  try simp only [aP, lA, lZ, lS]
  refine wT (i := 1) (oi := ⟨some 7, _, _, _, _, _⟩) (v := ?vvn2x1) rfl (by kernel_rfl) (by kernel_rfl) (by kernel_rfl) (fun _ _ _ h => h) (Or.inl ⟨by rfl, ?hyvn2x1⟩) (by assumption) ?restvn2x1
  case hyvn2x1 => (intro wz hSw; (try dsimp only at hSw); go_simp <;> try with_reducible rfl)
  try simp only [aP, lA, lZ, lS]
  refine wT (i := 2) (oi := ⟨some 8, _, _, _, _, _⟩) (v := ?vvn3x2) rfl (by kernel_rfl) (by kernel_rfl) (by kernel_rfl) (fun _ _ _ h => h) (Or.inl ⟨by rfl, ?hyvn3x2⟩) (by assumption) ?restvn3x2
  case hyvn3x2 => (intro wz hSw; (try dsimp only at hSw); go_simp <;> try with_reducible rfl)
  try simp only [aP, lA, lZ, lS]
  refine wT (i := 3) (oi := ⟨some 9, _, _, _, _, _⟩) (v := ?vvn4x3) rfl (by kernel_rfl) (by kernel_rfl) (by kernel_rfl) (fun _ _ _ h => h) (Or.inl ⟨by rfl, ?hyvn4x3⟩) (by assumption) ?restvn4x3
  case hyvn4x3 => (intro wz hSw; (try dsimp only at hSw); go_simp <;> try with_reducible rfl)
  try simp only [aP, lA, lZ, lS]
  refine wT (i := 4) (oi := ⟨some 10, _, _, _, _, _⟩) (v := ?vvn5x4) rfl (by kernel_rfl) (by kernel_rfl) (by kernel_rfl) (fun _ _ _ h => h) (Or.inl ⟨by rfl, ?hyvn5x4⟩) (by assumption) ?restvn5x4
  case hyvn5x4 => (intro wz hSw; (try dsimp only at hSw); go_simp <;> try with_reducible rfl)
  try simp only [aP, lA, lZ, lS]
  refine wT (i := 5) (oi := ⟨some 11, _, _, _, _, _⟩) (v := ?vvn6x5) rfl (by kernel_rfl) (by kernel_rfl) (by kernel_rfl) (fun _ _ _ h => h) (Or.inl ⟨by rfl, ?hyvn6x5⟩) (by assumption) ?restvn6x5
  case hyvn6x5 => (intro wz hSw; (try dsimp only at hSw); go_simp <;> try with_reducible rfl)
  try simp only [aP, lA, lZ, lS]
  refine wpAnyH_ready (rs := [6]) (by kernel_rfl) (by simp) (AllReadyH.cons (o := ⟨some 12, _, _, _, _, _⟩) rfl (fun K hK => ?_) AllReadyH.nil)
  go_simp
  go_at_call 53
  refine (KHa.out _ H1.out).mono ?_
  rintro e w2 ⟨rfl, hb2⟩
  have H2 := keep (H1.out.step hb2.out)
  have HC2 := keep (HC1.out.step hb2.out)
  have HB2 := keep (HB1.out.trans (hb2.out.mono HB1.out.size))
  (try go_wp2_with fail)
  refine hK.out _ _ ⟨H2.out.c18, HC2.out.all.1.2.2.1⟩ (fun hHeld => ?_)
  clear hK K
  try simp only [aP, lA, lZ, lS]
  refine wT (i := 7) (oi := ⟨some 13, _, _, _, _, _⟩) (v := ?vvn7x7) rfl (by kernel_rfl) (by kernel_rfl) (by kernel_rfl) (fun _ _ _ h => h) (Or.inl ⟨by rfl, ?hyvn7x7⟩) (by assumption) ?restvn7x7
  case hyvn7x7 => (intro wz hSw; (try dsimp only at hSw); go_simp <;> try with_reducible rfl)
  try simp only [aP, lA, lZ, lS]
  refine wpAnyH_done (by kernel_rfl) ?_ _
  clear d0 d1 d2 d3 d4 d5 d6 d7 d8 d9 d10 d11
  obtain ⟨d0, d1, d2, d3, d4, d5, d6, d7, d8, d9, d10, d11⟩ := HC2.out.all.1
  have KHo2 := keep (KHo.out _ H2.out HB2.out)
  go_wp2_with (first
    | (go_at_call 54; refine KHo2.out.mono ?_; rintro e w3 ⟨rfl, J', hJ, H3⟩))
  have HC3 := keep (HC2.out.xl H3.out.2 HNO.out)
  have HNO3 := keep (H3.out.2.out (Array.getElem?_eq_some_iff.1 HC2.out).1 HNO.out)
  have H4 := keep H3.out.1.drew
  have HC4 := keep HC3.out.drew
  refine wp_region_held_drew (S := (fun w' => w'.cell? ⟨g.b, 18, none⟩ = some (.pointer (some ⟨g.gb, 0, none⟩)) ∧ w'.cell? ⟨w.heap.size, 2, none⟩ = some (.int .u32 ca))) (by kernel_rfl) ⟨H4.out.c18, HC4.out.all.1.2.2.1⟩ (fun hHeld => ?_)
  refine wT (i := 0) (oi := ⟨some 20, _, _, _, _, _⟩) (v := ?vwn1x0) rfl (by kernel_rfl) (by kernel_rfl) (by kernel_rfl) (fun _ _ _ h => h) (Or.inl ⟨by rfl, ?hywn1x0⟩) (by assumption) ?restwn1x0
  case hywn1x0 => (intro wz hSw; (try dsimp only at hSw); go_simp <;> try with_reducible rfl)
  try simp only [aP, lA, lZ, lS]
  refine wT (i := 1) (oi := ⟨some 21, _, _, _, _, _⟩) (v := ?vwn2x1) rfl (by kernel_rfl) (by kernel_rfl) (by kernel_rfl) (fun _ _ _ h => h) (Or.inl ⟨by rfl, ?hywn2x1⟩) (by assumption) ?restwn2x1
  case hywn2x1 => (intro wz hSw; (try dsimp only at hSw); go_simp <;> try with_reducible rfl)
  try simp only [aP, lA, lZ, lS]
  refine wT (i := 2) (oi := ⟨some 22, _, _, _, _, _⟩) (v := ?vwn3x2) rfl (by kernel_rfl) (by kernel_rfl) (by kernel_rfl) (fun _ _ _ h => h) (Or.inl ⟨by rfl, ?hywn3x2⟩) (by assumption) ?restwn3x2
  case hywn3x2 => (intro wz hSw; (try dsimp only at hSw); go_simp <;> try with_reducible rfl)
  try simp only [aP, lA, lZ, lS]
  refine wT (i := 3) (oi := ⟨some 23, _, _, _, _, _⟩) (v := ?vwn4x3) rfl (by kernel_rfl) (by kernel_rfl) (by kernel_rfl) (fun _ _ _ h => h) (Or.inl ⟨by rfl, ?hywn4x3⟩) (by assumption) ?restwn4x3
  case hywn4x3 => (intro wz hSw; (try dsimp only at hSw); go_simp <;> try with_reducible rfl)
  try simp only [aP, lA, lZ, lS]
  refine wT (i := 4) (oi := ⟨some 24, _, _, _, _, _⟩) (v := ?vwn5x4) rfl (by kernel_rfl) (by kernel_rfl) (by kernel_rfl) (fun _ _ _ h => h) (Or.inl ⟨by rfl, ?hywn5x4⟩) (by assumption) ?restwn5x4
  case hywn5x4 => (intro wz hSw; (try dsimp only at hSw); go_simp <;> try with_reducible rfl)
  try simp only [aP, lA, lZ, lS]
  refine wT (i := 5) (oi := ⟨some 25, _, _, _, _, _⟩) (v := ?vwn6x5) rfl (by kernel_rfl) (by kernel_rfl) (by kernel_rfl) (fun _ _ _ h => h) (Or.inl ⟨by rfl, ?hywn6x5⟩) (by assumption) ?restwn6x5
  case hywn6x5 => (intro wz hSw; (try dsimp only at hSw); go_simp <;> try with_reducible rfl)
  try simp only [aP, lA, lZ, lS]
  refine wpAnyH_ready (rs := [6]) (by kernel_rfl) (by simp) (AllReadyH.cons (o := ⟨some 26, _, _, _, _, _⟩) rfl (fun K hK => ?_) AllReadyH.nil)
  go_simp
  go_at_call 55
  refine (KS.out _ _ _ H4.out).mono ?_
  rintro e w5 ⟨rfl, v', H5⟩
  have HC5 := keep (HC4.out.xl H5.out.2 HNO3.out)
  (try go_wp2_with fail)
  refine hK.out _ _ ⟨H5.out.1.c18, HC5.out.all.1.2.2.1⟩ (fun hHeld => ?_)
  clear hK K
  try simp only [aP, lA, lZ, lS]
  refine wpAnyH_done (by kernel_rfl) ?_ _
  have c20 := H5.out.1.c20
  have f20 := H5.out.1.fz 20
  dsimp only at c20 f20
  obtain ⟨h6, hl6⟩ := H5.out.1.put 20 (.bool true) { { { x with j := J1 } with s := (x.s.add ca) } with ow := true } rfl rfl rfl rfl rfl
  have H6 := keep (And.intro h6 hl6)
  clear h6 hl6
  go_wp2
  go_ret
  exact ⟨rfl, J', v', keep ⟨H6.out.1, (Xl.below HB2.out).trans (H3.out.2.trans ((Xl.below (Below.refl _ _).drew).trans (H5.out.2.trans H6.out.2)))⟩⟩
set_option maxHeartbeats 4000000 in
theorem xHear_new {w : World} {g : Xg} {x : Xm} (h : XA w g x) {c : CX} (hc : CV w c) (hk : c.kd = 0) (hh : (c.a - x.s.f) % 4294967296 = 1) (hd : had x.s.f x.s.L c.a = false) (he : addE x.j c.c0 = 0) {J1 : Jn} (hj : ∀ j', Came x.j c.c0 j' → j' = J1) (now : Int) :
    Calls Tryz.prog 13 #[.pointer (some ⟨g.b, 0, none⟩), .agg c.cells.toArray, .int .i64 now] w fun e w' => e = .returned (.int .i64 0) ∧ ∃ J' v', Hid (XA w' { { g with J := J' } with gv := v' } { x with j := J1, s := x.s.add c.a, ow := true } ∧ Xl w g w' { { g with J := J' } with gv := v' }) := by
  have hb0 := below_lay w (.cells c.cells.toArray 41)
  have H0 := keep (h.step hb0)
  have HB0 := keep hb0
  have HCK := keep (show CK (w.alloc (.cells c.cells.toArray 41)) w.heap.size c from heap_alloc_new w _)
  have KR := keep (fun W (H : XA W g x) (hb : Below w.heap.size w W) => xreceive_new H (hc.step hb) hh hd he hj)
  have HNO := keep (show ¬ g.O w.heap.size from fun ho => absurd (h.olt ho) (Nat.lt_irrefl _))
  clear h hc hb0 hd hh he hj
  obtain ⟨ck, cf, ca, cb, co, cs, cp, ⟨x1, x2, x3⟩, ⟨x4, x5, x6⟩, ⟨x7, x8, x9⟩, ⟨x10, x11, x12⟩, ⟨x13, x14, x15⟩, cps, cbs⟩ := c
  obtain rfl : ck = 0 := hk
  obtain ⟨d0, d1, d2, d3, d4, d5, d6, d7, d8, d9, d10, d11⟩ := HCK.out.all.1
  dsimp only [CX.cells] at d0 d1 d2 d3 d4 d5 d6 d7 d8 d9 d10 d11 KR H0 HB0 HCK ⊢
  go_enter Tryz.func13, Tryz.ntmps13
  go_wp2_with fail
  have H1 := keep H0.out.drew
  have HC1 := keep HCK.out.drew
  have HB1 := keep HB0.out.drew
  refine wp_region_held_drew (S := (fun w' => (w'.cell? ⟨w.heap.size, 0, none⟩ = some (.int .u8 0) ∧ w'.cell? ⟨w.heap.size, 1, none⟩ = some (.int .u8 cf) ∧ w'.cell? ⟨w.heap.size, 2, none⟩ = some (.int .u32 ca) ∧ w'.cell? ⟨w.heap.size, 3, none⟩ = some (.int .u32 cb) ∧ w'.cell? ⟨w.heap.size, 4, none⟩ = some (.int .u16 co) ∧ w'.cell? ⟨w.heap.size, 5, none⟩ = some (.int .u16 cs) ∧ w'.cell? ⟨w.heap.size, 6, none⟩ = some (.int .u32 cp) ∧ w'.cell? ⟨w.heap.size, 7, none⟩ = some (.slice x1 x2 x3) ∧ w'.cell? ⟨w.heap.size, 8, none⟩ = some (.slice x4 x5 x6) ∧ w'.cell? ⟨w.heap.size, 9, none⟩ = some (.slice x7 x8 x9) ∧ w'.cell? ⟨w.heap.size, 10, none⟩ = some (.slice x10 x11 x12) ∧ w'.cell? ⟨w.heap.size, 11, none⟩ = some (.slice x13 x14 x15)))) (by kernel_rfl) HC1.out.all.1 (fun hHeld => ?_)
  refine wT (i := 0) (oi := ⟨some 13, _, _, _, _, _⟩) (v := ?ven1x0) rfl (by kernel_rfl) (by kernel_rfl) (by kernel_rfl) (fun _ _ _ h => h) (Or.inl ⟨by rfl, ?hyen1x0⟩) (by assumption) ?resten1x0
  case hyen1x0 => (intro wz hSw; (try dsimp only at hSw); go_simp <;> try with_reducible rfl)
  try simp only [aP, lA, lZ, lS]
  refine wT (i := 1) (oi := ⟨some 14, _, _, _, _, _⟩) (v := ?ven2x1) rfl (by kernel_rfl) (by kernel_rfl) (by kernel_rfl) (fun _ _ _ h => h) (Or.inl ⟨by rfl, ?hyen2x1⟩) (by assumption) ?resten2x1
  case hyen2x1 => (intro wz hSw; (try dsimp only at hSw); go_simp <;> try with_reducible rfl)
  try simp only [aP, lA, lZ, lS]
  refine wT (i := 2) (oi := ⟨some 15, _, _, _, _, _⟩) (v := ?ven3x2) rfl (by kernel_rfl) (by kernel_rfl) (by kernel_rfl) (fun _ _ _ h => h) (Or.inl ⟨by rfl, ?hyen3x2⟩) (by assumption) ?resten3x2
  case hyen3x2 => (intro wz hSw; (try dsimp only at hSw); go_simp <;> try with_reducible rfl)
  try simp only [aP, lA, lZ, lS]
  refine wT (i := 3) (oi := ⟨some 16, _, _, _, _, _⟩) (v := ?ven4x3) rfl (by kernel_rfl) (by kernel_rfl) (by kernel_rfl) (fun _ _ _ h => h) (Or.inl ⟨by rfl, ?hyen4x3⟩) (by assumption) ?resten4x3
  case hyen4x3 => (intro wz hSw; (try dsimp only at hSw); go_simp <;> try with_reducible rfl)
  try simp only [aP, lA, lZ, lS]
  refine wpAnyH_ready (rs := [4]) (by kernel_rfl) (by simp) (AllReadyH.cons (o := ⟨some 17, _, _, _, _, _⟩) rfl (fun K hK => ?_) AllReadyH.nil)
  go_simp
  go_at_call 26
  refine (KR.out _ H1.out HB1.out).mono ?_
  rintro e w2 ⟨rfl, J', v', H2⟩
  have HC2 := keep (HC1.out.xl H2.out.2 HNO.out)
  (try go_wp2_with fail)
  refine hK.out _ _ HC2.out.all.1 (fun hHeld => ?_)
  clear hK K
  try simp only [aP, lA, lZ, lS]
  refine wT (i := 5) (oi := ⟨some 6, _, _, _, _, _⟩) (v := ?ven5x5) rfl (by kernel_rfl) (by kernel_rfl) (by kernel_rfl) (fun _ _ _ h => h) (Or.inl ⟨by rfl, ?hyen5x5⟩) (by assumption) ?resten5x5
  case hyen5x5 => (intro wz hSw; (try dsimp only at hSw); go_simp <;> try with_reducible rfl)
  try simp only [aP, lA, lZ, lS]
  refine wpAnyH_done (by kernel_rfl) ?_ _
  go_wp2
  go_ret
  exact ⟨rfl, J', v', keep ⟨H2.out.1, (Xl.below HB1.out).trans H2.out.2⟩⟩
set_option maxHeartbeats 4000000 in
theorem xreceive_dup {w : World} {g : Xg} {x : Xm} (h : XA w g x) {c : CX} (hc : CV w c) (hd : had x.s.f x.s.L c.a = true) :
    Calls Tryz.prog 26 #[.pointer (some ⟨g.b, 18, none⟩), .agg c.cells.toArray] w fun e w' => e = .returned (.int .i64 0) ∧ ∃ v', Hid (XA w' { g with gv := v' } { x with s := x.s.add c.a, ow := true } ∧ Xl w g w' { g with gv := v' }) := by
  have hb0 := below_lay w (.cells c.cells.toArray 41)
  have H0 := keep (h.step hb0)
  have HB0 := keep hb0
  have HCK := keep (show CK (w.alloc (.cells c.cells.toArray 41)) w.heap.size c from heap_alloc_new w _)
  have KHa := keep (fun W (H : XA W g x) => xhas H hc.a hd)
  have KS := keep (fun W G X (H : XA W G X) => xsadd (g := G) (x := X) H hc.a)
  have HNO := keep (show ¬ g.O w.heap.size from fun ho => absurd (h.olt ho) (Nat.lt_irrefl _))
  clear h hc hb0 hd
  obtain ⟨ck, cf, ca, cb, co, cs, cp, ⟨x1, x2, x3⟩, ⟨x4, x5, x6⟩, ⟨x7, x8, x9⟩, ⟨x10, x11, x12⟩, ⟨x13, x14, x15⟩, cps, cbs⟩ := c
  obtain ⟨d0, d1, d2, d3, d4, d5, d6, d7, d8, d9, d10, d11⟩ := HCK.out.all.1
  dsimp only [CX.cells] at d0 d1 d2 d3 d4 d5 d6 d7 d8 d9 d10 d11 KHa KS H0 HB0 HCK ⊢
  go_enter Tryz.func26, Tryz.ntmps26
  go_wp2_with fail
  have H1 := keep H0.out.drew
  have HC1 := keep HCK.out.drew
  have HB1 := keep HB0.out.drew
  refine wp_region_held_drew (S := (fun w' => w'.cell? ⟨g.b, 18, none⟩ = some (.pointer (some ⟨g.gb, 0, none⟩)) ∧ w'.cell? ⟨w.heap.size, 2, none⟩ = some (.int .u32 ca))) (by kernel_rfl) ⟨H1.out.c18, HC1.out.all.1.2.2.1⟩ (fun hHeld => ?_)
  refine wT (i := 0) (oi := ⟨some 6, _, _, _, _, _⟩) (v := ?vvd1x0) rfl (by kernel_rfl) (by kernel_rfl) (by kernel_rfl) (fun _ _ _ h => h) (Or.inl ⟨by rfl, ?hyvd1x0⟩) (by assumption) ?restvd1x0
  case hyvd1x0 => (intro wz hSw; (try dsimp only at hSw); go_simp <;> try with_reducible rfl)
  try simp only [aP, lA, lZ, lS]
  refine wT (i := 1) (oi := ⟨some 7, _, _, _, _, _⟩) (v := ?vvd2x1) rfl (by kernel_rfl) (by kernel_rfl) (by kernel_rfl) (fun _ _ _ h => h) (Or.inl ⟨by rfl, ?hyvd2x1⟩) (by assumption) ?restvd2x1
  case hyvd2x1 => (intro wz hSw; (try dsimp only at hSw); go_simp <;> try with_reducible rfl)
  try simp only [aP, lA, lZ, lS]
  refine wT (i := 2) (oi := ⟨some 8, _, _, _, _, _⟩) (v := ?vvd3x2) rfl (by kernel_rfl) (by kernel_rfl) (by kernel_rfl) (fun _ _ _ h => h) (Or.inl ⟨by rfl, ?hyvd3x2⟩) (by assumption) ?restvd3x2
  case hyvd3x2 => (intro wz hSw; (try dsimp only at hSw); go_simp <;> try with_reducible rfl)
  try simp only [aP, lA, lZ, lS]
  refine wT (i := 3) (oi := ⟨some 9, _, _, _, _, _⟩) (v := ?vvd4x3) rfl (by kernel_rfl) (by kernel_rfl) (by kernel_rfl) (fun _ _ _ h => h) (Or.inl ⟨by rfl, ?hyvd4x3⟩) (by assumption) ?restvd4x3
  case hyvd4x3 => (intro wz hSw; (try dsimp only at hSw); go_simp <;> try with_reducible rfl)
  try simp only [aP, lA, lZ, lS]
  refine wT (i := 4) (oi := ⟨some 10, _, _, _, _, _⟩) (v := ?vvd5x4) rfl (by kernel_rfl) (by kernel_rfl) (by kernel_rfl) (fun _ _ _ h => h) (Or.inl ⟨by rfl, ?hyvd5x4⟩) (by assumption) ?restvd5x4
  case hyvd5x4 => (intro wz hSw; (try dsimp only at hSw); go_simp <;> try with_reducible rfl)
  try simp only [aP, lA, lZ, lS]
  refine wT (i := 5) (oi := ⟨some 11, _, _, _, _, _⟩) (v := ?vvd6x5) rfl (by kernel_rfl) (by kernel_rfl) (by kernel_rfl) (fun _ _ _ h => h) (Or.inl ⟨by rfl, ?hyvd6x5⟩) (by assumption) ?restvd6x5
  case hyvd6x5 => (intro wz hSw; (try dsimp only at hSw); go_simp <;> try with_reducible rfl)
  try simp only [aP, lA, lZ, lS]
  refine wpAnyH_ready (rs := [6]) (by kernel_rfl) (by simp) (AllReadyH.cons (o := ⟨some 12, _, _, _, _, _⟩) rfl (fun K hK => ?_) AllReadyH.nil)
  go_simp
  go_at_call 53
  refine (KHa.out _ H1.out).mono ?_
  rintro e w2 ⟨rfl, hb2⟩
  have H2 := keep (H1.out.step hb2.out)
  have HC2 := keep (HC1.out.step hb2.out)
  have HB2 := keep (HB1.out.trans (hb2.out.mono HB1.out.size))
  (try go_wp2_with fail)
  refine hK.out _ _ ⟨H2.out.c18, HC2.out.all.1.2.2.1⟩ (fun hHeld => ?_)
  clear hK K
  try simp only [aP, lA, lZ, lS]
  refine wT (i := 7) (oi := ⟨some 13, _, _, _, _, _⟩) (v := ?vvd7x7) rfl (by kernel_rfl) (by kernel_rfl) (by kernel_rfl) (fun _ _ _ h => h) (Or.inl ⟨by rfl, ?hyvd7x7⟩) (by assumption) ?restvd7x7
  case hyvd7x7 => (intro wz hSw; (try dsimp only at hSw); go_simp <;> try with_reducible rfl)
  try simp only [aP, lA, lZ, lS]
  refine wpAnyH_done (by kernel_rfl) ?_ _
  go_wp2
  have H4 := keep H2.out.drew
  have HC4 := keep HC2.out.drew
  refine wp_region_held_drew (S := (fun w' => w'.cell? ⟨g.b, 18, none⟩ = some (.pointer (some ⟨g.gb, 0, none⟩)) ∧ w'.cell? ⟨w.heap.size, 2, none⟩ = some (.int .u32 ca))) (by kernel_rfl) ⟨H4.out.c18, HC4.out.all.1.2.2.1⟩ (fun hHeld => ?_)
  refine wT (i := 0) (oi := ⟨some 20, _, _, _, _, _⟩) (v := ?vwd1x0) rfl (by kernel_rfl) (by kernel_rfl) (by kernel_rfl) (fun _ _ _ h => h) (Or.inl ⟨by rfl, ?hywd1x0⟩) (by assumption) ?restwd1x0
  case hywd1x0 => (intro wz hSw; (try dsimp only at hSw); go_simp <;> try with_reducible rfl)
  try simp only [aP, lA, lZ, lS]
  refine wT (i := 1) (oi := ⟨some 21, _, _, _, _, _⟩) (v := ?vwd2x1) rfl (by kernel_rfl) (by kernel_rfl) (by kernel_rfl) (fun _ _ _ h => h) (Or.inl ⟨by rfl, ?hywd2x1⟩) (by assumption) ?restwd2x1
  case hywd2x1 => (intro wz hSw; (try dsimp only at hSw); go_simp <;> try with_reducible rfl)
  try simp only [aP, lA, lZ, lS]
  refine wT (i := 2) (oi := ⟨some 22, _, _, _, _, _⟩) (v := ?vwd3x2) rfl (by kernel_rfl) (by kernel_rfl) (by kernel_rfl) (fun _ _ _ h => h) (Or.inl ⟨by rfl, ?hywd3x2⟩) (by assumption) ?restwd3x2
  case hywd3x2 => (intro wz hSw; (try dsimp only at hSw); go_simp <;> try with_reducible rfl)
  try simp only [aP, lA, lZ, lS]
  refine wT (i := 3) (oi := ⟨some 23, _, _, _, _, _⟩) (v := ?vwd4x3) rfl (by kernel_rfl) (by kernel_rfl) (by kernel_rfl) (fun _ _ _ h => h) (Or.inl ⟨by rfl, ?hywd4x3⟩) (by assumption) ?restwd4x3
  case hywd4x3 => (intro wz hSw; (try dsimp only at hSw); go_simp <;> try with_reducible rfl)
  try simp only [aP, lA, lZ, lS]
  refine wT (i := 4) (oi := ⟨some 24, _, _, _, _, _⟩) (v := ?vwd5x4) rfl (by kernel_rfl) (by kernel_rfl) (by kernel_rfl) (fun _ _ _ h => h) (Or.inl ⟨by rfl, ?hywd5x4⟩) (by assumption) ?restwd5x4
  case hywd5x4 => (intro wz hSw; (try dsimp only at hSw); go_simp <;> try with_reducible rfl)
  try simp only [aP, lA, lZ, lS]
  refine wT (i := 5) (oi := ⟨some 25, _, _, _, _, _⟩) (v := ?vwd6x5) rfl (by kernel_rfl) (by kernel_rfl) (by kernel_rfl) (fun _ _ _ h => h) (Or.inl ⟨by rfl, ?hywd6x5⟩) (by assumption) ?restwd6x5
  case hywd6x5 => (intro wz hSw; (try dsimp only at hSw); go_simp <;> try with_reducible rfl)
  try simp only [aP, lA, lZ, lS]
  refine wpAnyH_ready (rs := [6]) (by kernel_rfl) (by simp) (AllReadyH.cons (o := ⟨some 26, _, _, _, _, _⟩) rfl (fun K hK => ?_) AllReadyH.nil)
  go_simp
  go_at_call 55
  refine (KS.out _ _ _ H4.out).mono ?_
  rintro e w5 ⟨rfl, v', H5⟩
  have HC5 := keep (HC4.out.xl H5.out.2 HNO.out)
  (try go_wp2_with fail)
  refine hK.out _ _ ⟨H5.out.1.c18, HC5.out.all.1.2.2.1⟩ (fun hHeld => ?_)
  clear hK K
  try simp only [aP, lA, lZ, lS]
  refine wpAnyH_done (by kernel_rfl) ?_ _
  have c20 := H5.out.1.c20
  have f20 := H5.out.1.fz 20
  dsimp only at c20 f20
  obtain ⟨h6, hl6⟩ := H5.out.1.put 20 (.bool true) { { x with s := (x.s.add ca) } with ow := true } rfl rfl rfl rfl rfl
  have H6 := keep (And.intro h6 hl6)
  clear h6 hl6
  go_wp2
  go_ret
  exact ⟨rfl, v', keep ⟨H6.out.1, (Xl.below HB2.out).trans ((Xl.below (Below.refl _ _).drew).trans (H5.out.2.trans H6.out.2))⟩⟩
set_option maxHeartbeats 4000000 in
theorem xHear_dup {w : World} {g : Xg} {x : Xm} (h : XA w g x) {c : CX} (hc : CV w c) (hk : c.kd = 0) (hd : had x.s.f x.s.L c.a = true) (now : Int) :
    Calls Tryz.prog 13 #[.pointer (some ⟨g.b, 0, none⟩), .agg c.cells.toArray, .int .i64 now] w fun e w' => e = .returned (.int .i64 0) ∧ ∃ v', Hid (XA w' { g with gv := v' } { x with s := x.s.add c.a, ow := true } ∧ Xl w g w' { g with gv := v' }) := by
  have hb0 := below_lay w (.cells c.cells.toArray 41)
  have H0 := keep (h.step hb0)
  have HB0 := keep hb0
  have HCK := keep (show CK (w.alloc (.cells c.cells.toArray 41)) w.heap.size c from heap_alloc_new w _)
  have KR := keep (fun W (H : XA W g x) (hb : Below w.heap.size w W) => xreceive_dup H (hc.step hb) hd)
  have HNO := keep (show ¬ g.O w.heap.size from fun ho => absurd (h.olt ho) (Nat.lt_irrefl _))
  clear h hc hb0 hd
  obtain ⟨ck, cf, ca, cb, co, cs, cp, ⟨x1, x2, x3⟩, ⟨x4, x5, x6⟩, ⟨x7, x8, x9⟩, ⟨x10, x11, x12⟩, ⟨x13, x14, x15⟩, cps, cbs⟩ := c
  obtain rfl : ck = 0 := hk
  obtain ⟨d0, d1, d2, d3, d4, d5, d6, d7, d8, d9, d10, d11⟩ := HCK.out.all.1
  dsimp only [CX.cells] at d0 d1 d2 d3 d4 d5 d6 d7 d8 d9 d10 d11 KR H0 HB0 HCK ⊢
  go_enter Tryz.func13, Tryz.ntmps13
  go_wp2_with fail
  have H1 := keep H0.out.drew
  have HC1 := keep HCK.out.drew
  have HB1 := keep HB0.out.drew
  refine wp_region_held_drew (S := (fun w' => (w'.cell? ⟨w.heap.size, 0, none⟩ = some (.int .u8 0) ∧ w'.cell? ⟨w.heap.size, 1, none⟩ = some (.int .u8 cf) ∧ w'.cell? ⟨w.heap.size, 2, none⟩ = some (.int .u32 ca) ∧ w'.cell? ⟨w.heap.size, 3, none⟩ = some (.int .u32 cb) ∧ w'.cell? ⟨w.heap.size, 4, none⟩ = some (.int .u16 co) ∧ w'.cell? ⟨w.heap.size, 5, none⟩ = some (.int .u16 cs) ∧ w'.cell? ⟨w.heap.size, 6, none⟩ = some (.int .u32 cp) ∧ w'.cell? ⟨w.heap.size, 7, none⟩ = some (.slice x1 x2 x3) ∧ w'.cell? ⟨w.heap.size, 8, none⟩ = some (.slice x4 x5 x6) ∧ w'.cell? ⟨w.heap.size, 9, none⟩ = some (.slice x7 x8 x9) ∧ w'.cell? ⟨w.heap.size, 10, none⟩ = some (.slice x10 x11 x12) ∧ w'.cell? ⟨w.heap.size, 11, none⟩ = some (.slice x13 x14 x15)))) (by kernel_rfl) HC1.out.all.1 (fun hHeld => ?_)
  refine wT (i := 0) (oi := ⟨some 13, _, _, _, _, _⟩) (v := ?ved1x0) rfl (by kernel_rfl) (by kernel_rfl) (by kernel_rfl) (fun _ _ _ h => h) (Or.inl ⟨by rfl, ?hyed1x0⟩) (by assumption) ?rested1x0
  case hyed1x0 => (intro wz hSw; (try dsimp only at hSw); go_simp <;> try with_reducible rfl)
  try simp only [aP, lA, lZ, lS]
  refine wT (i := 1) (oi := ⟨some 14, _, _, _, _, _⟩) (v := ?ved2x1) rfl (by kernel_rfl) (by kernel_rfl) (by kernel_rfl) (fun _ _ _ h => h) (Or.inl ⟨by rfl, ?hyed2x1⟩) (by assumption) ?rested2x1
  case hyed2x1 => (intro wz hSw; (try dsimp only at hSw); go_simp <;> try with_reducible rfl)
  try simp only [aP, lA, lZ, lS]
  refine wT (i := 2) (oi := ⟨some 15, _, _, _, _, _⟩) (v := ?ved3x2) rfl (by kernel_rfl) (by kernel_rfl) (by kernel_rfl) (fun _ _ _ h => h) (Or.inl ⟨by rfl, ?hyed3x2⟩) (by assumption) ?rested3x2
  case hyed3x2 => (intro wz hSw; (try dsimp only at hSw); go_simp <;> try with_reducible rfl)
  try simp only [aP, lA, lZ, lS]
  refine wT (i := 3) (oi := ⟨some 16, _, _, _, _, _⟩) (v := ?ved4x3) rfl (by kernel_rfl) (by kernel_rfl) (by kernel_rfl) (fun _ _ _ h => h) (Or.inl ⟨by rfl, ?hyed4x3⟩) (by assumption) ?rested4x3
  case hyed4x3 => (intro wz hSw; (try dsimp only at hSw); go_simp <;> try with_reducible rfl)
  try simp only [aP, lA, lZ, lS]
  refine wpAnyH_ready (rs := [4]) (by kernel_rfl) (by simp) (AllReadyH.cons (o := ⟨some 17, _, _, _, _, _⟩) rfl (fun K hK => ?_) AllReadyH.nil)
  go_simp
  go_at_call 26
  refine (KR.out _ H1.out HB1.out).mono ?_
  rintro e w2 ⟨rfl, v', H2⟩
  have HC2 := keep (HC1.out.xl H2.out.2 HNO.out)
  (try go_wp2_with fail)
  refine hK.out _ _ HC2.out.all.1 (fun hHeld => ?_)
  clear hK K
  try simp only [aP, lA, lZ, lS]
  refine wT (i := 5) (oi := ⟨some 6, _, _, _, _, _⟩) (v := ?ved5x5) rfl (by kernel_rfl) (by kernel_rfl) (by kernel_rfl) (fun _ _ _ h => h) (Or.inl ⟨by rfl, ?hyed5x5⟩) (by assumption) ?rested5x5
  case hyed5x5 => (intro wz hSw; (try dsimp only at hSw); go_simp <;> try with_reducible rfl)
  try simp only [aP, lA, lZ, lS]
  refine wpAnyH_done (by kernel_rfl) ?_ _
  go_wp2
  go_ret
  exact ⟨rfl, v', keep ⟨H2.out.1, (Xl.below HB1.out).trans H2.out.2⟩⟩
end
end Go.Proofs.YtnlkdlnmffibhaaGreat
