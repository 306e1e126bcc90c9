/- KBL of the stage: texts Xg1, Xg2, Xg3, Xg4, joined. -/
import Derived.Test.YtnlkdlnmffibhaaGreatKBI
import Derived.Test.YtnlkdlnmffibhaaGreatKBK
set_option linter.unusedSimpArgs false
set_option linter.unusedVariables false
set_option maxRecDepth 8000
namespace Go.Proofs.YtnlkdlnmffibhaaGreat
open List renaming setIfInBounds_toArray → lA, set_cons_zero → lZ, set_cons_succ → lS
open Go renaming wpAnyH_take → wT
open Go.Act renaming put → aP
section
open Go.RowKit Go.Maps
set_option maxHeartbeats 4000000 in
theorem xHear_sack {w : World} {g : Xg} {x : Xm} (h : XA w g x) {c : CX} (hc : CV w c) (hk : c.kd = 3) (hb0 : c.bl.2.1 = 0) {now : Int} (hre : reachedB x.q c.a = true) {by_ : Nat} {sa : Int} (hsa : 0 ≤ sa) (hr : ackR x.q c.a [] (bd now) = ⟨by_, sa, false, true⟩) (hes : (ackQ x.q c.a []).es = []) {f : Nat} (hf : octs x.q.es [1] = f) :
    Calls Tryz.prog 13 #[.pointer (some ⟨g.b, 0, none⟩), .agg c.cells.toArray, .int .i64 now] w fun e w' => e = .returned (.int .i64 0) ∧ ∃ g' x', Hid (XA w' g' x' ∧ Xl w g w' g' ∧ x'.q.es = [] ∧ x'.ow = x.ow) := by
  have hbl := below_lay w (.cells c.cells.toArray 41)
  have H0 := keep (h.step hbl)
  have HB0 := keep hbl
  have HCK := keep (show CK (w.alloc (.cells c.cells.toArray 41)) w.heap.size c from heap_alloc_new w _)
  have KB := keep (fun W => xbounded_any now W)
  have KA := keep (fun W (H : XA W g x) (hb : Below w.heap.size w W) => xanswered_all H (hc.step hb) hb0 hre hsa hr hes hf)
  have HNO := keep (show ¬ g.O w.heap.size from fun ho => absurd (h.olt ho) (Nat.lt_irrefl _))
  obtain ⟨nw, hnw⟩ : ∃ nw, bd now = nw := ⟨_, rfl⟩
  rw [hnw] at KA KB
  clear h hc hre hr hf hes hbl hsa hnw
  obtain ⟨ck, cf, ca, cb, co, cs, cp, ⟨x1, x2, x3⟩, ⟨x4, x5, x6⟩, ⟨x7, x8, x9⟩, ⟨x10, x11, x12⟩, ⟨x13, x14, x15⟩, cps, cbs⟩ := c
  obtain rfl : ck = 3 := hk
  obtain rfl : x2 = 0 := hb0
  obtain ⟨d0, d1, d2, d3, d4, d5, d6, d7, d8, d9, d10, d11⟩ := HCK.out.all.1
  dsimp only [CX.cells] at d0 d1 d2 d3 d4 d5 d6 d7 d8 d9 d10 d11 KA H0 HB0 HCK ⊢
  go_enter Tryz.func13, Tryz.ntmps13
  go_wp2_with fail
  have H1 := keep H0.out.drew
  have HC1 := keep HCK.out.drew
  have HB1 := keep HB0.out.drew
  refine wp_region_held_drew (S := (fun w' => (w'.cell? ⟨w.heap.size, 0, none⟩ = some (.int .u8 3) ∧ w'.cell? ⟨w.heap.size, 1, none⟩ = some (.int .u8 cf) ∧ w'.cell? ⟨w.heap.size, 2, none⟩ = some (.int .u32 ca) ∧ w'.cell? ⟨w.heap.size, 3, none⟩ = some (.int .u32 cb) ∧ w'.cell? ⟨w.heap.size, 4, none⟩ = some (.int .u16 co) ∧ w'.cell? ⟨w.heap.size, 5, none⟩ = some (.int .u16 cs) ∧ w'.cell? ⟨w.heap.size, 6, none⟩ = some (.int .u32 cp) ∧ w'.cell? ⟨w.heap.size, 7, none⟩ = some (.slice x1 0 x3) ∧ w'.cell? ⟨w.heap.size, 8, none⟩ = some (.slice x4 x5 x6) ∧ w'.cell? ⟨w.heap.size, 9, none⟩ = some (.slice x7 x8 x9) ∧ w'.cell? ⟨w.heap.size, 10, none⟩ = some (.slice x10 x11 x12) ∧ w'.cell? ⟨w.heap.size, 11, none⟩ = some (.slice x13 x14 x15)))) (by kernel_rfl) HC1.out.all.1 (fun hHeld => ?_)
  refine wT (i := 0) (oi := ⟨some 20, _, _, _, _, _⟩) (v := ?vh1x0) rfl (by kernel_rfl) (by kernel_rfl) (by kernel_rfl) (fun _ _ _ h => h) (Or.inl ⟨by rfl, ?hyh1x0⟩) (by assumption) ?resth1x0
  case hyh1x0 => (intro wz hSw; (try dsimp only at hSw); go_simp <;> try with_reducible rfl)
  try simp only [aP, lA, lZ, lS]
  refine wT (i := 1) (oi := ⟨some 21, _, _, _, _, _⟩) (v := ?vh2x1) rfl (by kernel_rfl) (by kernel_rfl) (by kernel_rfl) (fun _ _ _ h => h) (Or.inl ⟨by rfl, ?hyh2x1⟩) (by assumption) ?resth2x1
  case hyh2x1 => (intro wz hSw; (try dsimp only at hSw); go_simp <;> try with_reducible rfl)
  try simp only [aP, lA, lZ, lS]
  refine wT (i := 2) (oi := ⟨some 22, _, _, _, _, _⟩) (v := ?vh3x2) rfl (by kernel_rfl) (by kernel_rfl) (by kernel_rfl) (fun _ _ _ h => h) (Or.inl ⟨by rfl, ?hyh3x2⟩) (by assumption) ?resth3x2
  case hyh3x2 => (intro wz hSw; (try dsimp only at hSw); go_simp <;> try with_reducible rfl)
  try simp only [aP, lA, lZ, lS]
  refine wT (i := 3) (oi := ⟨some 23, _, _, _, _, _⟩) (v := ?vh4x3) rfl (by kernel_rfl) (by kernel_rfl) (by kernel_rfl) (fun _ _ _ h => h) (Or.inl ⟨by rfl, ?hyh4x3⟩) (by assumption) ?resth4x3
  case hyh4x3 => (intro wz hSw; (try dsimp only at hSw); go_simp <;> try with_reducible rfl)
  try simp only [aP, lA, lZ, lS]
  refine wT (i := 4) (oi := ⟨some 24, _, _, _, _, _⟩) (v := ?vh5x4) rfl (by kernel_rfl) (by kernel_rfl) (by kernel_rfl) (fun _ _ _ h => h) (Or.inl ⟨by rfl, ?hyh5x4⟩) (by assumption) ?resth5x4
  case hyh5x4 => (intro wz hSw; (try dsimp only at hSw); go_simp <;> try with_reducible rfl)
  try simp only [aP, lA, lZ, lS]
  refine wpAnyH_ready (rs := [5]) (by kernel_rfl) (by simp) (AllReadyH.cons (o := ⟨some 25, _, _, _, _, _⟩) rfl (fun K hK => ?_) AllReadyH.nil)
  go_simp
  go_at_call 18
  refine (KB.out _).mono ?_
  rintro e w' ⟨rfl, rfl⟩
  (try go_wp2_with fail)
  refine hK.out _ _ HC1.out.all.1 (fun hHeld => ?_)
  clear hK K
  try simp only [aP, lA, lZ, lS]
  refine wpAnyH_ready (rs := [6]) (by kernel_rfl) (by simp) (AllReadyH.cons (o := ⟨some 26, _, _, _, _, _⟩) rfl (fun K hK => ?_) AllReadyH.nil)
  go_simp
  go_at_call 27
  refine (KA.out _ H1.out HB1.out).mono ?_
  rintro e w2 ⟨rfl, g', x', H2⟩
  have HC2 := keep (HC1.out.xl H2.out.2.1 HNO.out)
  (try go_wp2_with fail)
  refine hK.out _ _ HC2.out.all.1 (fun hHeld => ?_)
  clear hK K
  try simp only [aP, lA, lZ, lS]
  refine wT (i := 7) (oi := ⟨some 6, _, _, _, _, _⟩) (v := ?vh6x7) rfl (by kernel_rfl) (by kernel_rfl) (by kernel_rfl) (fun _ _ _ h => h) (Or.inl ⟨by rfl, ?hyh6x7⟩) (by assumption) ?resth6x7
  case hyh6x7 => (intro wz hSw; (try dsimp only at hSw); go_simp <;> try with_reducible rfl)
  try simp only [aP, lA, lZ, lS]
  refine wpAnyH_done (by kernel_rfl) ?_ _
  go_wp2
  go_ret
  exact ⟨rfl, g', x', keep ⟨H2.out.1, (Xl.below HB1.out).trans H2.out.2.1, H2.out.2.2⟩⟩
set_option maxHeartbeats 4000000 in
theorem xSend_any {w : World} {g : Xg} {x : Xm} (h : XA w g x) {s : Nat} {pp ssn : Int} {d1 : Option Addr} {d2 d3 : Nat} {bs : List UInt8} (hs : s < 65536) (hpp : 0 ≤ pp ∧ pp < 4294967296) (hbs : BS w d1 d2 d3 bs) (hn : x.nl[s]? = some ssn) (hsn : 0 ≤ ssn ∧ ssn < 65535) {k : Nat} (hk : max 1 (min 1172 (x.ws.mt - 28)) = (k : Int)) (hmt : 0 ≤ x.ws.mt ∧ x.ws.mt ≤ 65536) (h0 : 0 < bs.length) (h2 : bs.length ≤ 2000) (hl : octs x.q.es [2, 0] + bs.length ≤ 65536) (hf : ¬ 1024 < x.q.es.length + cnt k bs.length) (now : Int) :
    Calls Tryz.prog 7 #[.pointer (some ⟨g.b, 0, none⟩), .agg #[.int .u16 (s : Int), .bool false, .int .u32 pp, .slice d1 d2 d3], .int .i64 (-1), .int .i64 (-1), .int .i64 now] w fun e w' => e = .returned (.int .i64 0) ∧ ∃ Q' new m, Hid (XA w' { g with Q := Q' } { x with q := pushQ x.q new m (-1) (-1), nl := x.nl.set s (ssn + 1) } ∧ Xl w g w' { g with Q := Q' } ∧ NewE ⟨(s : Int), false, pp, bs⟩ ssn k x.q new m) := by
  have hb0 := below_lay w (.cells #[.int .u16 (s : Int), .bool false, .int .u32 pp, .slice d1 d2 d3] 33)
  have H0 := keep (h.step hb0)
  have HB0 := keep hb0
  have HM := keep (show MBx (w.alloc (.cells #[.int .u16 (s : Int), .bool false, .int .u32 pp, .slice d1 d2 d3] 33)) w.heap.size s pp d1 d2 d3 from heap_alloc_new w _)
  have HNO := keep (show ¬ g.O w.heap.size from fun ho => absurd (h.olt ho) (Nat.lt_irrefl _))
  have KB := keep (fun W => xbounded_any now W)
  have KU := keep (fun n W => until_always n W)
  have KP := keep (fun W (H : XA W g x) (hb : Below w.heap.size w W) => xpush_any H hs hpp (hbs.step hb) hn hsn hk hmt h0 h2 hl hf)
  clear h hs hpp hbs hn hsn hk hmt h0 h2 hl hf hb0
  go_enter Tryz.func7, Tryz.ntmps7
  go_wp2_with fail
  have H1 := keep H0.out.drew
  have HM1 := keep HM.out.drew
  have HB1 := keep HB0.out.drew
  refine wp_region_held_drew (S := (fun w' => w'.cell? ⟨w.heap.size, 0, none⟩ = some (.int .u16 (s : Int)) ∧ w'.cell? ⟨w.heap.size, 1, none⟩ = some (.bool false) ∧ w'.cell? ⟨w.heap.size, 2, none⟩ = some (.int .u32 pp) ∧ w'.cell? ⟨w.heap.size, 3, none⟩ = some (.slice d1 d2 d3))) (by kernel_rfl) HM1.out.all (fun hHeld => ?_)
  refine wT (i := 0) (oi := ⟨some 13, _, _, _, _, _⟩) (v := ?vs1x0) rfl (by kernel_rfl) (by kernel_rfl) (by kernel_rfl) (fun _ _ _ h => h) (Or.inl ⟨by rfl, ?hys1x0⟩) (by assumption) ?rests1x0
  case hys1x0 => (intro wz hSw; (try dsimp only at hSw); go_simp <;> try with_reducible rfl)
  try simp only [aP, lA, lZ, lS]
  refine wT (i := 1) (oi := ⟨some 14, _, _, _, _, _⟩) (v := ?vs2x1) rfl (by kernel_rfl) (by kernel_rfl) (by kernel_rfl) (fun _ _ _ h => h) (Or.inl ⟨by rfl, ?hys2x1⟩) (by assumption) ?rests2x1
  case hys2x1 => (intro wz hSw; (try dsimp only at hSw); go_simp <;> try with_reducible rfl)
  try simp only [aP, lA, lZ, lS]
  refine wT (i := 2) (oi := ⟨some 15, _, _, _, _, _⟩) (v := ?vs3x2) rfl (by kernel_rfl) (by kernel_rfl) (by kernel_rfl) (fun _ _ _ h => h) (Or.inl ⟨by rfl, ?hys3x2⟩) (by assumption) ?rests3x2
  case hys3x2 => (intro wz hSw; (try dsimp only at hSw); go_simp <;> try with_reducible rfl)
  try simp only [aP, lA, lZ, lS]
  refine wT (i := 3) (oi := ⟨some 16, _, _, _, _, _⟩) (v := ?vs4x3) rfl (by kernel_rfl) (by kernel_rfl) (by kernel_rfl) (fun _ _ _ h => h) (Or.inl ⟨by rfl, ?hys4x3⟩) (by assumption) ?rests4x3
  case hys4x3 => (intro wz hSw; (try dsimp only at hSw); go_simp <;> try with_reducible rfl)
  try simp only [aP, lA, lZ, lS]
  refine wT (i := 4) (oi := ⟨some 17, _, _, _, _, _⟩) (v := ?vs5x4) rfl (by kernel_rfl) (by kernel_rfl) (by kernel_rfl) (fun _ _ _ h => h) (Or.inl ⟨by rfl, ?hys5x4⟩) (by assumption) ?rests5x4
  case hys5x4 => (intro wz hSw; (try dsimp only at hSw); go_simp <;> try with_reducible rfl)
  try simp only [aP, lA, lZ, lS]
  refine wT (i := 6) (oi := ⟨some 19, _, _, _, _, _⟩) (v := ?vs6x6) rfl (by kernel_rfl) (by kernel_rfl) (by kernel_rfl) (fun _ _ _ h => h) (Or.inl ⟨by rfl, ?hys6x6⟩) (by assumption) ?rests6x6
  case hys6x6 => (intro wz hSw; (try dsimp only at hSw); go_simp <;> try with_reducible rfl)
  try simp only [aP, lA, lZ, lS]
  refine wT (i := 8) (oi := ⟨some 21, _, _, _, _, _⟩) (v := ?vs7x8) rfl (by kernel_rfl) (by kernel_rfl) (by kernel_rfl) (fun _ _ _ h => h) (Or.inl ⟨by rfl, ?hys7x8⟩) (by assumption) ?rests7x8
  case hys7x8 => (intro wz hSw; (try dsimp only at hSw); go_simp <;> try with_reducible rfl)
  try simp only [aP, lA, lZ, lS]
  refine wpAnyH_ready (rs := [5]) (by kernel_rfl) (by simp) (AllReadyH.cons (o := ⟨some 18, _, _, _, _, _⟩) rfl (fun K hK => ?_) AllReadyH.nil)
  go_simp
  go_at_call 18
  refine (KB.out _).mono ?_
  rintro e w' ⟨rfl, rfl⟩
  (try go_wp2_with fail)
  refine hK.out _ _ HM1.out.all (fun hHeld => ?_)
  clear hK K
  try simp only [aP, lA, lZ, lS]
  refine wpAnyH_ready (rs := [7]) (by kernel_rfl) (by simp) (AllReadyH.cons (o := ⟨some 20, _, _, _, _, _⟩) rfl (fun K hK => ?_) AllReadyH.nil)
  go_simp
  go_at_call 17
  refine (KU.out _ _).mono ?_
  rintro e w' ⟨rfl, rfl⟩
  (try go_wp2_with fail)
  refine hK.out _ _ HM1.out.all (fun hHeld => ?_)
  clear hK K
  try simp only [aP, lA, lZ, lS]
  refine wpAnyH_ready (rs := [9]) (by kernel_rfl) (by simp) (AllReadyH.cons (o := ⟨some 22, _, _, _, _, _⟩) rfl (fun K hK => ?_) AllReadyH.nil)
  go_simp
  go_at_call 16
  refine (KP.out _ H1.out HB1.out).mono ?_
  rintro e w2 ⟨rfl, Q', new, m, H2⟩
  have HM2 := keep (show MBx w2 w.heap.size s pp d1 d2 d3 from (H2.out.2.1.part.block _ (Array.getElem?_eq_some_iff.1 HM1.out).1 HNO.out).trans HM1.out)
  (try go_wp2_with fail)
  refine hK.out _ _ HM2.out.all (fun hHeld => ?_)
  clear hK K
  try simp only [aP, lA, lZ, lS]
  refine wT (i := 10) (oi := ⟨some 10, _, _, _, _, _⟩) (v := ?vs8x10) rfl (by kernel_rfl) (by kernel_rfl) (by kernel_rfl) (fun _ _ _ h => h) (Or.inl ⟨by rfl, ?hys8x10⟩) (by assumption) ?rests8x10
  case hys8x10 => (intro wz hSw; (try dsimp only at hSw); go_simp <;> try with_reducible rfl)
  try simp only [aP, lA, lZ, lS]
  refine wpAnyH_done (by kernel_rfl) ?_ _
  go_wp2
  go_ret
  exact ⟨rfl, Q', new, m, keep ⟨H2.out.1, (Xl.below HB1.out).trans H2.out.2.1, H2.out.2.2⟩⟩
structure GotX (gO : Nat → Prop) (w' : World) (g' : Xg) (A : Option Addr) (n c : Nat) (l : List MX) (rd : List Msg) : Prop where
  ms : MSl w' A n c l
  mv : ∀ y ∈ l, MV w' y
  is : l.map MX.msg = rd
  no : ∀ a, A = some a → ¬ g'.O a.block ∧ a.block < w'.heap.size ∧ gO a.block
theorem got_no {w w' : World} {g : Xg} {x : Xm} (h : XA w g x) {J' : Gh} (hl : Later w g.J w' J') {i : Nat} (hi : g.J.O i) (hn : ¬ J'.O i) : ∀ k, ¬ Xg.S { g with J := J' } k i
  | 0, hk => h.ap 0 4 i (by decide) hk (.inl hi)
  | 1, hk => h.ap 1 4 i (by decide) hk (.inl hi)
  | 2, hk => h.ap 2 4 i (by decide) hk (.inl hi)
  | 3, hk => h.ap 3 4 i (by decide) hk (.inl hi)
  | 4, hk => by
    rcases hk with h1 | h1
    · exact hn h1
    · rcases hl.f i h1 with h2 | h2
      · exact h.jg.ja.dis i hi h2
      · have := h.jg.ja.olt i hi; omega
  | _ + 5, hk => hk
theorem xMessages_any {w : World} {g : Xg} {x : Xm} (h : XA w g x) : Calls Tryz.prog 14 #[.pointer (some ⟨g.b, 0, none⟩)] w fun e w' => ∃ A n c l J', e = .returned (.slice A n c) ∧ Hid (XA w' { g with J := J' } { x with j := takeJ x.j } ∧ Xl w g w' { g with J := J' } ∧ GotX g.O w' { g with J := J' } A n c l x.j.rd) := by
  have c19 := h.c19
  have KT := keep ((Take_any_jo h.jg).mono (fun e w' hh => show ∃ A n c l J', e = .returned (.slice A n c) ∧ Hid (XA w' { g with J := J' } { x with j := takeJ x.j } ∧ Xl w g w' { g with J := J' } ∧ GotX g.O w' { g with J := J' } A n c l x.j.rd) from by
    obtain ⟨A, m, c, l, G', rfl, h1, h2, h3, h4, h5, h6⟩ := hh
    have h7 := h.upJ h5 h6
    exact ⟨A, m, c, l, G', rfl, keep ⟨h7.1, h7.2, h1, fun y hy => (h2 y hy).1, h3, fun a ea => ⟨fun ⟨k, hk⟩ => got_no h h6 (h4 a ea).2.2 (h4 a ea).1 k hk, (h4 a ea).2.1, ⟨4, .inl (h4 a ea).2.2⟩⟩⟩⟩))
  clear h
  go_enter Tryz.func14, Tryz.ntmps14
  go_wp2_with (first | (go_at_call 29; refine KT.out.mono ?_; rintro e w2 ⟨A, n, c, l, J', rfl, H2⟩))
  go_ret
  exact ⟨A, n, c, l, J', rfl, H2⟩
theorem xNext_any {w : World} {g : Xg} {x : Xm} (h : XA w g x) : Calls Tryz.prog 11 #[.pointer (some ⟨g.b, 0, none⟩)] w fun e w' => e = .returned (.int .u32 x.q.nx) ∧ w = w' := by
  have c0 := h.c0
  have KN := keep (Next_any h.qa)
  clear h
  go_enter Tryz.func11, Tryz.ntmps11
  go_wp2_with (first | (go_at_call 23; refine KN.out.mono ?_; rintro e w' ⟨rfl, rfl⟩))
  go_ret
  exact ⟨rfl, rfl⟩
theorem xDue_any {w : World} {g : Xg} {x : Xm} (h : XA w g x) : Calls Tryz.prog 9 #[.pointer (some ⟨g.b, 0, none⟩)] w fun e w' => e = .returned (.tuple #[.int .i64 x.tm, .bool x.ru]) ∧ ∃ k, w' = w.drewN k := by
  have c11 := h.c11
  have c12 := h.c12
  clear h
  go_enter Tryz.func9, Tryz.ntmps9
  go_wp2
  go_quiet (fail)
  go_wp2
  exact bodyPost_ret (results_tmp2 rfl _ _ _) rfl ⟨rfl, _, rfl⟩
theorem xlen_any {w : World} {g : Xg} {x : Xm} (h : XA w g x) {n : Nat} (hn : x.q.es.length = n) : Calls Tryz.prog 30 #[.pointer (some ⟨g.Q.b, 0, none⟩)] w fun e w' => e = .returned (.int .i64 (n : Int)) ∧ w = w' := by
  subst hn
  exact Len_any h.qa
theorem xIdle_yes {w : World} {g : Xg} {x : Xm} (h : XA w g x) (he : x.q.es = []) (how : x.ow = false) : Calls Tryz.prog 15 #[.pointer (some ⟨g.b, 0, none⟩)] w fun e w' => e = .returned (.bool true) ∧ w = w' := by
  have KL := keep (xlen_any h (n := 0) (by rw [he]; rfl))
  have c0 := h.c0
  have c20 := h.c20
  rw [how] at c20
  clear h he how
  go_enter Tryz.func15, Tryz.ntmps15
  go_wp2_with (first | (go_at_call 30; refine KL.out.mono ?_; rintro e w' ⟨rfl, rfl⟩))
  all_goals go_ret
  all_goals exact ⟨rfl, rfl⟩
theorem xIdle_no {w : World} {g : Xg} {x : Xm} (h : XA w g x) {e0 : En} (he : x.q.es = [e0]) : Calls Tryz.prog 15 #[.pointer (some ⟨g.b, 0, none⟩)] w fun e w' => e = .returned (.bool false) ∧ w = w' := by
  have KL := keep (xlen_any h (n := 1) (by rw [he]; rfl))
  have c0 := h.c0
  have c20 := h.c20
  clear h he
  go_enter Tryz.func15, Tryz.ntmps15
  go_wp2_with (first | (go_at_call 30; refine KL.out.mono ?_; rintro e w' ⟨rfl, rfl⟩))
  all_goals go_ret
  all_goals exact ⟨rfl, rfl⟩
end
section
open Go.RowKit Go.Maps
theorem cnt_one {k n : Nat} (h0 : 0 < n) (hk : n ≤ k) : cnt k n = 1 := by
  unfold cnt
  exact Nat.div_eq_of_lt_le (by omega) (by omega)
theorem piece_one {k : Nat} {bs : List UInt8} (hk : bs.length ≤ k) : piece k bs 0 = bs := by
  unfold piece
  rw [Nat.zero_mul, List.drop_zero, List.take_of_length_le hk]
theorem new_one {M : Msg} {ssn : Int} {k : Nat} {q : Qm} {new : List En} {m : Nat} (h : NewE M ssn k q new m) (hu : M.un = false) (h0 : 0 < M.da.length) (hk : M.da.length ≤ k) (hq : 0 ≤ q.nx ∧ q.nx < 4294967296) :
    ∃ e, new = [e] ∧ e.c.ct = ⟨0, 3, q.nx, 0, M.st, ssn, M.pp, [], [], [], [], M.da⟩ ∧ lenE e = M.da.length ∧ e.m = m ∧ e.st = 0 ∧ e.sn = 0 := by
  have hl := h.len
  rw [cnt_one h0 hk] at hl
  obtain ⟨e, rfl⟩ := List.length_eq_one_iff.1 hl
  obtain ⟨h1, h2, h3, h4, h5, _, _⟩ := h.all 0 e rfl
  rw [cnt_one h0 hk, piece_one hk] at h1
  rw [piece_one hk] at h2
  refine ⟨e, rfl, ?_, h2, h3, h4, h5⟩
  rw [h1]
  have e1 : flg M.un 1 0 = 3 := by rw [hu]; rfl
  have e2 : ssnOf M ssn = ssn := by unfold ssnOf; rw [hu]; rfl
  have e3 : (q.nx + ((0 : Nat) : Int)) % 4294967296 = q.nx := by omega
  rw [e1, e2, e3]
theorem one_take (e : En) (hst : e.st = 0) (nx : Int) (mg : Nat → Mg) (now R : Int) (hR : (lenE e : Int) ≤ R) : takeQ ⟨[e], nx, mg⟩ now R = ([sendE now e], [e.c]) := by
  unfold lenE at hR
  have h1 : ¬ R < (e.c.da.2.1 : Int) := by omega
  unfold takeQ
  show takeGo now 1 2 0 [e] R [] = _
  rw [takeGo_no (e := e) rfl (by rw [hst]; decide), takeGo_yes (e := e) rfl (by rw [hst]; rfl) h1]
  rfl
theorem dist_next (a : Int) (ha : 0 ≤ a ∧ a < 4294967296) : dist32 (wr (a - 1)) a = 1 := by
  unfold dist32 dist wr
  omega
theorem ht_next (a : Int) (ha : 0 ≤ a ∧ a < 4294967296) : ht (wr (a - 1)) a = 1 := by
  unfold ht
  rw [dist_next a ha]
  rfl
theorem had_next (a : Int) (ha : 0 ≤ a ∧ a < 4294967296) : had (wr (a - 1)) [] a = false := by
  cases hh : had (wr (a - 1)) [] a with
  | false => rfl
  | true =>
    rcases had_iff.1 hh with h1 | h1 | h1
    · rw [ht_next a ha] at h1; omega
    · rw [ht_next a ha] at h1; omega
    · cases h1
theorem had_self (a : Int) : had a [] a = true := had_iff.2 (.inl (by
  unfold ht dist32 dist
  rw [Int.sub_self]
  rfl))
theorem rise_one : riseL [1] = 1 := by
  have h1 : Fit [1] := ⟨⟨List.pairwise_singleton _ _, fun h hh => by rw [List.mem_singleton.1 hh]; decide⟩, fun h hh => by rw [List.mem_singleton.1 hh]; decide⟩
  refine h1.rise.one ⟨fun h h2 h3 => ?_, by decide⟩
  have : h = 1 := by omega
  rw [this]
  exact List.mem_cons_self ..
theorem add_next (a : Int) (ha : 0 ≤ a ∧ a < 4294967296) : (St.new a).add a = ⟨a, [], []⟩ := by
  show (if had (wr (a - 1)) [] a = true then (⟨wr (a - 1), [], ([] ++ [a]).take 64⟩ : St) else if 1024 < ht (wr (a - 1)) a then St.new a else (St.new a).put (ht (wr (a - 1)) a)) = _
  rw [had_next a ha, ht_next a ha, if_neg (by decide), if_neg (by decide)]
  unfold St.put
  show (⟨wr (wr (a - 1) + riseL (insN 1 [])), shiftL (riseL (insN 1 [])) (insN 1 []), []⟩ : St) = _
  rw [show insN 1 [] = [1] from rfl, rise_one]
  have e1 : wr (wr (a - 1) + ((1 : Nat) : Int)) = a := by unfold wr; omega
  rw [e1]
  rfl
theorem add_again (a : Int) : (⟨a, [], []⟩ : St).add a = ⟨a, [], [a]⟩ := by
  unfold St.add
  rw [if_pos (had_self a)]
  rfl
theorem comes_nextM {j : Jn} {m : Msg} (hu : m.un = false) {k : Int} (hk : j.nx m.st = k) (hst : j.st = []) : comes j m k = { j with nx := setN j.nx m.st (up1 k), rd := j.rd ++ [m] } := by
  obtain ⟨n, nx, ch, st, rd⟩ := j
  have hst : st = [] := hst
  subst hst
  have hk : nx m.st = k := hk
  unfold comes
  rw [if_neg (by rw [hu]; exact Bool.false_ne_true), if_neg ?_]
  · show tell ⟨n, nx, ch, [(k, m)], rd⟩ m.st = _
    unfold tell tellN
    have h1 : hasS [(k, m)] m.st (nx m.st) = some m := by
      rw [hasS_cons, if_pos ⟨hk.symm, rfl⟩]
    show (match hasS [(k, m)] m.st (nx m.st) with | none => _ | some m' => tellN 0 (popJ _ m.st m') m.st) = _
    rw [h1]
    have h2 : delS [(k, m)] m.st (nx m.st) = [] := by
      unfold delS
      rw [List.filter_cons_of_neg (by rw [show isS m.st (nx m.st) (k, m) = true from isS_iff.2 ⟨hk.symm, rfl⟩]; decide)]
      rfl
    show Jn.mk n (setN nx m.st (up1 (nx m.st))) ch (delS [(k, m)] m.st (nx m.st)) (rd ++ [m]) = Jn.mk n (setN nx m.st (up1 k)) ch [] (rd ++ [m])
    rw [h2, hk]
  · show ¬ (lt16 k (nx m.st) = true ∨ (hasS [] m.st k).isSome = true)
    rintro (h1 | h1)
    · rw [hk] at h1
      unfold lt16 at h1
      have := of_decide_eq_true h1
      omega
    · cases h1
def j1 (s : Nat) (pp : Int) (bs : List UInt8) : Jn := ⟨4, setN (fun _ => 0) (s : Int) 1, [], [], [⟨(s : Int), false, pp, bs⟩]⟩
theorem join_one {a : Int} {s : Nat} {pp : Int} {bs : List UInt8} (ha : 0 ≤ a ∧ a < 4294967296) (hs : s < 4) (h0 : 0 < bs.length) (h2 : bs.length ≤ 2000) :
    addE (newJ 4) ⟨0, 3, a, 0, (s : Int), 0, pp, bs⟩ = 0 ∧ ∀ j', Came (newJ 4) ⟨0, 3, a, 0, (s : Int), 0, pp, bs⟩ j' → j' = j1 s pp bs := by
  have he : addE (newJ 4) ⟨0, 3, a, 0, (s : Int), 0, pp, bs⟩ = 0 := addE_of rfl (fun e => by have e' : bs = [] := e; rw [e'] at h0; cases h0) ⟨by show (0 : Int) ≤ (s : Int); omega, by show (s : Int) < 4; omega⟩ (fun x hx => by cases hx) (by show 0 + bs.length ≤ 65536; omega)
  refine ⟨he, fun j' hj => ?_⟩
  rw [came_single (Wf.new 4) ⟨ha.1, ha.2, Int.le_refl _, show (0 : Int) < 65536 by decide⟩ he rfl rfl hj]
  have e1 : msgOf [⟨0, 3, a, 0, (s : Int), 0, pp, bs⟩] = ⟨(s : Int), false, pp, bs⟩ := by unfold msgOf; simp
  rw [e1]
  show comes (newJ 4) ⟨(s : Int), false, pp, bs⟩ 0 = _
  rw [comes_nextM (k := 0) rfl rfl rfl]
  rfl
theorem one_ack {a : Int} {q : Qm} {e : En} {n0 n1 : Int} (ha : 0 ≤ a ∧ a < 4294967296) (hes : q.es = [sendE n0 e]) (hsn : e.sn = 0) (hnx : q.nx = (a + 1) % 4294967296) (hn0 : 0 ≤ n0) (hn1 : n0 ≤ n1) (hn2 : n1 ≤ 1099511627776) :
    reachedB q a = true ∧ (∃ b, ackR q a [] n1 = ⟨b, n1 - n0, false, true⟩) ∧ (ackQ q a []).es = [] := by
  have hstp : stp q a = 1 := by
    unfold stp flr dist32 dist
    rw [hes, hnx]
    simp only [List.length_singleton]
    rw [if_pos (by omega)]
    omega
  have hleft : leftL q a = [] := by unfold leftL; rw [hstp, hes]; rfl
  have hgone : goneL q a = [sendE n0 e] := by unfold goneL; rw [hstp, hes]; rfl
  have hcam : camL q a [] = [] := by unfold camL; rw [hleft]; rfl
  refine ⟨?_, ?_, ?_⟩
  · unfold reachedB
    rw [hstp, hes]
    rfl
  · unfold ackR
    rw [hcam, hgone, hstp, if_pos rfl]
    have hs : smp n1 [sendE n0 e] [sendE n0 e].length = n1 - n0 := by
      show (match ([sendE n0 e] : List En)[0]? with | some e' => if (e'.st = 1 ∨ e'.st = 2) ∧ e'.sn = 1 then IntKind.i64.wrap (n1 - e'.la) else smp n1 [sendE n0 e] 0 | none => smp n1 [sendE n0 e] 0) = _
      have h1 : ((sendE n0 e).st = 1 ∨ (sendE n0 e).st = 2) ∧ (sendE n0 e).sn = 1 := ⟨.inl rfl, by show wrap64 (e.sn + 1) = 1; rw [hsn]; exact (wrap_in 1 (by omega)).2⟩
      show (if ((sendE n0 e).st = 1 ∨ (sendE n0 e).st = 2) ∧ (sendE n0 e).sn = 1 then IntKind.i64.wrap (n1 - (sendE n0 e).la) else _) = _
      rw [if_pos h1]
      exact wrap_small (by show (0 : Int) ≤ n1 - n0; omega) (by show n1 - n0 < _; omega)
    rw [hs]
    exact ⟨_, rfl⟩
  · show ackE q a [] = []
    unfold ackE
    rw [hcam, if_pos rfl]
    unfold midL
    rw [hleft]
    rfl
end
section
open Go.RowKit Go.Maps
structure YY (w W : World) (gx gy : Xg) (x y : Xm) : Prop where
  a : XA W gx x
  b : XA W gy y
  ap : ∀ i, gx.O i → ¬ gy.O i
  lx : ∀ i, gx.O i → w.heap.size ≤ i
  ly : ∀ i, gy.O i → w.heap.size ≤ i
  be : Below w.heap.size w W
def NO (W : World) (gx gy : Xg) (i : Nat) : Prop := ¬ gx.O i ∧ ¬ gy.O i ∧ i < W.heap.size
section
variable {w W W' : World} {gx gy g' : Xg} {x y z : Xm}
theorem YY.step (h : YY w W gx gy x y) (hb : Below W.heap.size W W') : YY w W' gx gy x y := ⟨h.a.step hb, h.b.step hb, h.ap, h.lx, h.ly, h.be.trans (hb.mono h.be.size)⟩
theorem YY.swap (h : YY w W gx gy x y) : YY w W gy gx y x := ⟨h.b, h.a, fun i h1 h2 => h.ap i h2 h1, h.ly, h.lx, h.be⟩
theorem YY.upX (h : YY w W gx gy x y) (hz : XA W' g' z) (hl : Xl W gx W' g') : YY w W' g' gy z y :=
  ⟨hz, h.b.kept hl.part fun i hi hc => h.ap i hc hi, fun i h1 h2 => by
    rcases hl.o i h1 with h3 | h3
    · exact h.ap i h3 h2
    · have := h.b.olt h2; omega, fun i hi => by
    rcases hl.o i hi with h3 | h3
    · exact h.lx i h3
    · exact Nat.le_trans h.be.size h3, h.ly, h.be.trans (hl.part.below h.be.size h.lx)⟩
theorem YY.upY (h : YY w W gx gy x y) (hz : XA W' g' z) (hl : Xl W gy W' g') : YY w W' gx g' x z := (h.swap.upX hz hl).swap
theorem NO.step {i : Nat} (h : NO W gx gy i) (hb : Below W.heap.size W W') : NO W' gx gy i := ⟨h.1, h.2.1, Nat.lt_of_lt_of_le h.2.2 hb.size⟩
theorem NO.upY {i : Nat} (h : NO W gx gy i) (hl : Xl W gy W' g') : NO W' gx g' i := ⟨h.1, hl.out h.2.2 h.2.1, Nat.lt_of_lt_of_le h.2.2 hl.part.size⟩
theorem NO.upX {i : Nat} (h : NO W gx gy i) (hl : Xl W gx W' g') : NO W' g' gy i := ⟨hl.out h.2.2 h.1, h.2.1, Nat.lt_of_lt_of_le h.2.2 hl.part.size⟩
end
structure RK (W : World) (gx gy : Xg) (A : Option Addr) (c : Nat) (y0 : CZ) : Prop where
  row : W.ownsRow 0 41 12 (.slice A 1 c) 1 (flatF CZ.cells [y0])
  zv : ZV W y0
  no : ∀ i, (Value.slice A 1 c).ownBlock = some i → NO W gx gy i
  nd : ∀ i, adB y0 i → NO W gx gy i
theorem RK.upY {W W' : World} {gx gy g' : Xg} {A : Option Addr} {c : Nat} {y0 : CZ} (h : RK W gx gy A c y0) (hl : Xl W gy W' g') : RK W' gx g' A c y0 :=
  ⟨hl.part.own h.row fun i hi => (h.no i hi).2.1, h.zv.kept (Kpt.of_part (ok := fun i => ¬ gy.O i) hl.part fun i hi => hi) (adB.inf fun k hk => (h.nd k hk).2.1), fun i hi => (h.no i hi).upY hl, fun i hi => (h.nd i hi).upY hl⟩
theorem RK.step {W W' : World} {gx gy : Xg} {A : Option Addr} {c : Nat} {y0 : CZ} (h : RK W gx gy A c y0) (hb : Below W.heap.size W W') : RK W' gx gy A c y0 :=
  ⟨own_step h.row hb, h.zv.step hb, fun i hi => (h.no i hi).step hb, fun i hi => (h.nd i hi).step hb⟩
theorem RK.cells {W : World} {gx gy : Xg} {A : Option Addr} {c : Nat} {y0 : CZ} (h : RK W gx gy A c y0) : ∃ g, A = some ⟨g, 0, none⟩ ∧ g < W.heap.size ∧ Z12 W g 0 y0 := by
  obtain ⟨g, hg, _, h1, _, cur, hcur⟩ := own_row_at h.row (by simp [flatF, CZ.cells])
  refine ⟨g, hg, (Array.getElem?_eq_some_iff.1 hcur).1, Z12.of fun i v hv => ?_⟩
  rw [Nat.zero_add]
  refine h1 i v ?_
  rw [show flatF CZ.cells [y0] = y0.cells ++ [] from rfl, List.append_nil]
  exact hv
def zc (y : CZ) : CX := ⟨y.kd, y.fl, y.a, y.b, y.ou, y.si, y.pp, y.bl, y.du, y.sk, y.pr, y.da, [], y.bs⟩
theorem zc_cv {W : World} {y : CZ} (h : ZV W y) (hp : y.prs = []) : CV W (zc y) := by
  have h1 := h.pr
  rw [hp] at h1
  exact ⟨h.kd, h.fl, h.a, h.b, h.ou, h.si, h.pp, ⟨h1.1, h1.2.1, SR.nil _ _⟩, h.da⟩
def wsS (m : Int) : WS := WS.start m
structure X1 (a : Int) (s : Nat) (pp : Int) (bs : List UInt8) (e0 : En) (x : Xm) : Prop where
  es : x.q.es = [e0]
  nx : x.q.nx = (a + 1) % 4294967296
  mg : x.q.mg e0.m = ⟨-1, -1, false⟩
  ct : e0.c.ct = ⟨0, 3, a, 0, (s : Int), 0, pp, [], [], [], [], bs⟩
  ln : lenE e0 = bs.length
  st : e0.st = 0
  sn : e0.sn = 0
  ws : x.ws = WS.start 1200
  wa : x.rs.wa = 3000
  ru : x.ru = false
  ow : x.ow = false
  pe : x.pe = 65536
structure Y0 (f : Int) (T : List Int) (j : Jn) (ow : Bool) (y : Xm) : Prop where
  es : y.q.es = []
  s : y.s = ⟨f, [], T⟩
  j : y.j = j
  ow : y.ow = ow
  ws : y.ws = WS.start 1200
  wa : y.rs.wa = 3000
  pe : y.pe = 65536
theorem x0_y0 (a b : Int) : Y0 (wr (b - 1)) [] (newJ 4) false (x0 a b 65536 4 1200 4) := ⟨rfl, rfl, rfl, rfl, rfl, rfl, rfl⟩
theorem start_1200 : WS.start 1200 = ⟨3600, 1073741824, 0, 1200, false, 0⟩ := rfl
theorem s_send {w W : World} {gx gy : Xg} {y : Xm} {a b : Int} (ha : 0 ≤ a ∧ a < 4294967296) (h : YY w W gx gy (x0 a b 65536 4 1200 4) y) {s : Nat} {pp : Int} {d1 : Option Addr} {d2 d3 : Nat} {bs : List UInt8} (hs : s < 4) (hpp : 0 ≤ pp ∧ pp < 4294967296) (hbs : BS W d1 d2 d3 bs) (h0 : 0 < bs.length) (h2 : bs.length ≤ 1000) (now : Int) :
    Calls Tryz.prog 7 #[.pointer (some ⟨gx.b, 0, none⟩), .agg #[.int .u16 (s : Int), .bool false, .int .u32 pp, .slice d1 d2 d3], .int .i64 (-1), .int .i64 (-1), .int .i64 now] W fun e w' => e = .returned (.int .i64 0) ∧ ∃ g' x' e0, g'.b = gx.b ∧ Hid (YY w w' g' gy x' y ∧ X1 a s pp bs e0 x') := by
  have hn : (x0 a b 65536 4 1200 4).nl[s]? = some 0 := by
    show (List.replicate 4 (0 : Int))[s]? = _
    rw [List.getElem?_replicate, if_pos hs]
  refine (xSend_any h.a (k := 1172) (by omega) hpp hbs hn ⟨Int.le_refl _, by decide⟩ (show max 1 (min 1172 ((1200 : Int) - 28)) = ((1172 : Nat) : Int) by decide) (show (0 : Int) ≤ 1200 ∧ (1200 : Int) ≤ 65536 by decide) h0 (by omega) (by show 0 + bs.length ≤ 65536; omega) (by rw [cnt_one h0 (by omega)]; exact (show ¬ 1024 < 0 + 1 by decide)) now).mono ?_
  rintro e w' ⟨rfl, Q', new, m, hh⟩
  obtain ⟨h3, h4, h5⟩ := hh.out
  obtain ⟨e0, rfl, h6, h7, h8, h9, h10⟩ := new_one h5 rfl h0 (by show bs.length ≤ 1172; omega) ha
  refine ⟨rfl, { gx with Q := Q' }, _, e0, rfl, keep ⟨h.upX h3 h4, rfl, ?_, ?_, h6, h7, h9, h10, rfl, rfl, rfl, rfl, rfl⟩⟩
  · rfl
  · show (if e0.m = m then (⟨-1, -1, false⟩ : Mg) else _) = _
    rw [if_pos h8]
theorem s_tell {w W : World} {gx gy : Xg} {x y : Xm} {a : Int} {s : Nat} {pp : Int} {bs : List UInt8} {e0 : En} (h : YY w W gx gy x y) (hx : X1 a s pp bs e0 x) (h0 : 0 < bs.length) (h2 : bs.length ≤ 1000) (now : Int) :
    Calls Tryz.prog 8 #[.pointer (some ⟨gx.b, 0, none⟩), .int .i64 now] W fun e w' => ∃ A c y0 x', e = .returned (.slice A 1 c) ∧ Hid (YY w w' gx gy x' y ∧ RK w' gx gy A c y0 ∧ y0.ct = e0.c.ct ∧ x'.q.es = [sendE (bd now) e0] ∧ x'.q.nx = (a + 1) % 4294967296 ∧ x'.ow = false) := by
  have hq : x.q = ⟨[e0], (a + 1) % 4294967296, x.q.mg⟩ := by
    have h1 := hx.es
    have h3 := hx.nx
    cases hxq : x.q with
    | mk es nx mg =>
      rw [hxq] at h1 h3
      simp only at h1 h3
      rw [h1, h3]
  have hpl : PlainQ x.q := fun e he => by
    rw [hx.es] at he
    rw [List.mem_singleton.1 he]
    exact ⟨hx.mg, .inl hx.st⟩
  have hoc : octs x.q.es [1] = 0 := by
    rw [octs_eq]
    refine octsL_none fun e he => ?_
    rw [hx.es] at he
    rw [List.mem_singleton.1 he, hx.st]
    decide
  have htk : takeQ x.q (bd now) 3600 = ([sendE (bd now) e0], [e0.c]) := by
    rw [hq]
    exact one_take e0 hx.st _ _ _ _ (by rw [hx.ln]; omega)
  refine (xTell_calm h.a hx.ow hpl now hoc (by decide) (by rw [hx.pe]; decide) (p := 65536) (R := 3600) (by rw [hx.pe]; decide) (by rw [hx.ws]; rfl) (by decide) (by rw [hx.wa]; decide) rfl (.inr (.inl ⟨hx.ru, by rw [htk]; exact Nat.one_pos⟩)) (by rw [hx.es]; exact (show 1 ≤ 1024 by decide))).mono ?_
  rintro e w' ⟨A, n, c, ys, rfl, h3, h4⟩
  have h5 := h4.out.sr.2
  have h6 := h4.out.ct
  rw [htk] at h6
  have hl : ys.length = 1 := by have := congrArg List.length h6; simpa using this
  obtain ⟨y0, rfl⟩ := List.length_eq_one_iff.1 hl
  have hn : n = 1 := h5
  subst hn
  have h7 : y0.ct = e0.c.ct := by simpa using h6
  have hgw : ∀ i, gx.O i → i < W.heap.size := fun i hi => h.a.olt hi
  have hyw : ∀ i, gy.O i → i < W.heap.size := fun i hi => h.b.olt hi
  have hno : ∀ i, W.heap.size ≤ i → i < w'.heap.size → NO w' gx gy i := fun i h8 h9 => ⟨fun ho => by have := hgw i ho; omega, fun ho => by have := hyw i ho; omega, h9⟩
  refine ⟨A, c, y0, _, rfl, keep ⟨h.upX h3.out.1 h3.out.2, ⟨own_mono h4.out.row (Nat.zero_le _), (h4.out.zs y0 (List.mem_cons_self ..)).1, fun i hi => hno i (h4.out.row.lt i hi).1 (h4.out.row.lt i hi).2, fun i hi => hno i ((h4.out.zs y0 (List.mem_cons_self ..)).2 i hi).1 ((h4.out.zs y0 (List.mem_cons_self ..)).2 i hi).2⟩, h7, ?_, hx.nx, hx.ow⟩⟩
  show (tkQ x.q (bd now) 3600).es = _
  unfold tkQ
  rw [htk]
end
section
open Go.RowKit Go.Maps
def ctO (a : Int) (s : Nat) (pp : Int) (bs : List UInt8) : Ct := ⟨0, 3, a, 0, (s : Int), 0, pp, [], [], [], [], bs⟩
theorem ct_prs {y0 : CZ} {a : Int} {s : Nat} {pp : Int} {bs : List UInt8} (h : y0.ct = ctO a s pp bs) : y0.prs = [] ∧ y0.kd = 0 ∧ y0.a = a ∧ (zc y0).c0 = ⟨0, 3, a, 0, (s : Int), 0, pp, bs⟩ := by
  have e1 : y0.prs.map PZ.ct = [] := congrArg Ct.prs h
  have e2 : y0.kd = 0 := congrArg Ct.kd h
  have e3 : y0.fl = 3 := congrArg Ct.fl h
  have e4 : y0.a = a := congrArg Ct.a h
  have e5 : y0.ou = (s : Int) := congrArg Ct.ou h
  have e6 : y0.si = 0 := congrArg Ct.si h
  have e7 : y0.pp = pp := congrArg Ct.pp h
  have e8 : y0.bs = bs := congrArg Ct.bs h
  refine ⟨List.map_eq_nil_iff.1 e1, e2, e4, ?_⟩
  show (⟨y0.kd, y0.fl, y0.a, 0, y0.ou, y0.si, y0.pp, y0.bs⟩ : Ch) = _
  rw [e2, e3, e4, e5, e6, e7, e8]
section
variable {w W : World} {gx gy : Xg} {x y : Xm} {A : Option Addr} {c : Nat} {y0 : CZ} {a : Int} {s : Nat} {pp : Int} {bs : List UInt8}
theorem s_hear1 (h : YY w W gx gy x y) (hy : Y0 (wr (a - 1)) [] (newJ 4) false y) (hr : RK W gx gy A c y0) (hct : y0.ct = ctO a s pp bs) (ha : 0 ≤ a ∧ a < 4294967296) (hs : s < 4) (h0 : 0 < bs.length) (h2 : bs.length ≤ 1000) (now : Int) :
    Calls Tryz.prog 13 #[.pointer (some ⟨gy.b, 0, none⟩), .agg y0.cells.toArray, .int .i64 now] W fun e w' => e = .returned (.int .i64 0) ∧ ∃ g' y', g'.b = gy.b ∧ Hid (YY w w' gx g' x y' ∧ Y0 a [] (j1 s pp bs) true y' ∧ Xl W gy w' g') := by
  obtain ⟨e1, e2, e3, e4⟩ := ct_prs hct
  have hj := join_one ha hs h0 (show bs.length ≤ 2000 by omega) (pp := pp)
  refine (xHear_new h.b (c := zc y0) (zc_cv hr.zv e1) e2 (by rw [hy.s]; show (y0.a - wr (a - 1)) % 4294967296 = 1; rw [e3]; unfold wr; omega) (by rw [hy.s]; show had (wr (a - 1)) [] y0.a = false; rw [e3]; exact had_next a ha) (by rw [hy.j, e4]; exact hj.1) (J1 := j1 s pp bs) (by rw [hy.j, e4]; exact hj.2) now).mono ?_
  rintro e w' ⟨rfl, J', v', hh⟩
  refine ⟨rfl, { { gy with J := J' } with gv := v' }, { y with j := j1 s pp bs, s := y.s.add y0.a, ow := true }, rfl, keep ⟨h.upY hh.out.1 hh.out.2, ⟨hy.es, ?_, rfl, rfl, hy.ws, hy.wa, hy.pe⟩, hh.out.2⟩⟩
  show y.s.add y0.a = _
  rw [hy.s, e3]
  exact add_next a ha
theorem s_hear2 {j : Jn} (h : YY w W gx gy x y) (hy : Y0 a [] j false y) (hr : RK W gx gy A c y0) (hct : y0.ct = ctO a s pp bs) (ha : 0 ≤ a ∧ a < 4294967296) (now : Int) :
    Calls Tryz.prog 13 #[.pointer (some ⟨gy.b, 0, none⟩), .agg y0.cells.toArray, .int .i64 now] W fun e w' => e = .returned (.int .i64 0) ∧ ∃ g' y', g'.b = gy.b ∧ Hid (YY w w' gx g' x y' ∧ Y0 a [a] j true y' ∧ Xl W gy w' g') := by
  obtain ⟨e1, e2, e3, e4⟩ := ct_prs hct
  refine (xHear_dup h.b (c := zc y0) (zc_cv hr.zv e1) e2 (by rw [hy.s]; show had a [] y0.a = true; rw [e3]; exact had_self a) now).mono ?_
  rintro e w' ⟨rfl, v', hh⟩
  refine ⟨rfl, { gy with gv := v' }, { y with s := y.s.add y0.a, ow := true }, rfl, keep ⟨h.upY hh.out.1 hh.out.2, ⟨hy.es, ?_, hy.j, rfl, hy.ws, hy.wa, hy.pe⟩, hh.out.2⟩⟩
  show y.s.add y0.a = _
  rw [hy.s, e3]
  exact add_again a
structure SK (W : World) (gx gy : Xg) (A : Option Addr) (c : Nat) (f B : Int) (bl du : SL) (T : List Int) : Prop where
  row : W.ownsRow 0 41 12 (.slice A 1 c) 1 (sackC f B bl du)
  no : ∀ i, (Value.slice A 1 c).ownBlock = some i → NO W gx gy i
  bl0 : bl.2.1 = 0
  dl : du.2.1 = T.length
  dr : W.ownsRow 0 22 1 (.slice du.1 du.2.1 du.2.2) T.length (u32s T)
  dn : ∀ i, (Value.slice du.1 du.2.1 du.2.2).ownBlock = some i → NO W gx gy i
theorem SK.upY {W' : World} {g' : Xg} {f B : Int} {bl du : SL} {T : List Int} (h : SK W gx gy A c f B bl du T) (hl : Xl W gy W' g') : SK W' gx g' A c f B bl du T :=
  ⟨hl.part.own h.row fun i hi => (h.no i hi).2.1, fun i hi => (h.no i hi).upY hl, h.bl0, h.dl, hl.part.own h.dr fun i hi => (h.dn i hi).2.1, fun i hi => (h.dn i hi).upY hl⟩
theorem SK.step {W' : World} {f B : Int} {bl du : SL} {T : List Int} (h : SK W gx gy A c f B bl du T) (hb : Below W.heap.size W W') : SK W' gx gy A c f B bl du T :=
  ⟨own_step h.row hb, fun i hi => (h.no i hi).step hb, h.bl0, h.dl, own_step h.dr hb, fun i hi => (h.dn i hi).step hb⟩
theorem SK.cells {f B : Int} {bl du : SL} {T : List Int} (h : SK W gx gy A c f B bl du T) : ∃ g, A = some ⟨g, 0, none⟩ ∧ g < W.heap.size ∧ ∀ i v, (sackC f B bl du)[i]? = some v → W.cell? ⟨g, i, none⟩ = some v := by
  obtain ⟨g, hg, _, h1, _, cur, hcur⟩ := own_row_at h.row (by simp [sackC])
  exact ⟨g, hg, (Array.getElem?_eq_some_iff.1 hcur).1, h1⟩
theorem s_tellY {f : Int} {T : List Int} {j : Jn} (h : YY w W gx gy x y) (hy : Y0 f T j true y) (now : Int) :
    Calls Tryz.prog 8 #[.pointer (some ⟨gy.b, 0, none⟩), .int .i64 now] W fun e w' => ∃ A c bl du g' y' B, e = .returned (.slice A 1 c) ∧ g'.b = gy.b ∧ Hid (YY w w' gx g' x y' ∧ Y0 f [] j false y' ∧ Xl W gy w' g' ∧ SK w' gx g' A c f B bl du T ∧ 0 ≤ B ∧ B < 4294967296) := by
  refine (xTell_owed h.b hy.ow hy.es (by rw [hy.s]) now (by rw [hy.pe]; decide) (by rw [hy.ws, hy.pe]; decide) (by rw [hy.wa]; decide)).mono ?_
  rintro e w' ⟨A, c, bl, du, rfl, hh⟩
  have hoc := h.b.jg.good.le
  rw [hy.j] at hoc
  have h1 := hh.out
  have hr := h1.row
  have hd := h1.dr
  have hdl := h1.dl
  have hs1 : y.s.f = f := by rw [hy.s]
  have hs2 : y.s.L = [] := by rw [hy.s]
  have hs3 : y.s.T = T := by rw [hy.s]
  rw [hs1, hy.j] at hr
  rw [hs3] at hd hdl
  refine ⟨A, c, bl, du, { gy with gv := .slice none 0 0 }, { y with s := ⟨y.s.f, y.s.L, []⟩, ow := false }, _, rfl, rfl, keep ⟨h.upY h1.xa h1.xl, ⟨hy.es, ?_, hy.j, rfl, hy.ws, hy.wa, hy.pe⟩, h1.xl, ⟨own_mono hr (Nat.zero_le _), fun i hi => ⟨fun ho => ?_, h1.no i hi, (hr.lt i hi).2⟩, h1.len, hdl, hd, fun i hi => ⟨fun ho => h.ap i ho (h1.old i hi), h1.dn i hi, (hd.lt i hi).2⟩⟩, by omega, by omega⟩⟩
  · show (⟨y.s.f, y.s.L, []⟩ : St) = _
    rw [hs1, hs2]
  · have h2 := (hr.lt i hi).1
    have h3 := h.a.olt ho
    omega
theorem s_msgs {f : Int} {T : List Int} {j : Jn} {ow : Bool} (h : YY w W gx gy x y) (hy : Y0 f T j ow y) :
    Calls Tryz.prog 14 #[.pointer (some ⟨gy.b, 0, none⟩)] W fun e w' => ∃ A n c l g' y', e = .returned (.slice A n c) ∧ g'.b = gy.b ∧ Hid (YY w w' gx g' x y' ∧ Y0 f T (takeJ j) ow y' ∧ Xl W gy w' g' ∧ GotX gy.O w' g' A n c l j.rd) := by
  refine (xMessages_any h.b).mono ?_
  rintro e w' ⟨A, n, c, l, J', rfl, hh⟩
  obtain ⟨h1, h2, h3⟩ := hh.out
  rw [hy.j] at h1 h3
  exact ⟨A, n, c, l, { gy with J := J' }, { y with j := takeJ j }, rfl, rfl, keep ⟨h.upY h1 h2, ⟨hy.es, hy.s, rfl, hy.ow, hy.ws, hy.wa, hy.pe⟩, h2, h3⟩⟩
theorem s_sack {e0 : En} {B n0 : Int} {bl du : SL} (h : YY w W gx gy x y) (hes : x.q.es = [sendE n0 e0]) (hnx : x.q.nx = (a + 1) % 4294967296) (hsn : e0.sn = 0) (how : x.ow = false) (ha : 0 ≤ a ∧ a < 4294967296) (hB : 0 ≤ B ∧ B < 4294967296) (hs : bl.2.1 = 0 ∧ 0 ≤ bl.2.2) (now : Int) (h0 : 0 ≤ n0) (hn : n0 ≤ bd now) :
    Calls Tryz.prog 13 #[.pointer (some ⟨gx.b, 0, none⟩), .agg (sackC a B bl du).toArray, .int .i64 now] W fun e w' => e = .returned (.int .i64 0) ∧ ∃ g' x', g'.b = gx.b ∧ Hid (YY w w' g' gy x' y ∧ x'.q.es = [] ∧ x'.ow = false ∧ Xl W gx w' g') := by
  obtain ⟨hre, ⟨b, hr⟩, hq⟩ := one_ack (n1 := bd now) ha hes hsn hnx h0 hn (bd_in now).2
  have hcv : CV W ⟨3, 0, a, B, 0, 0, 0, bl, du, (none, 0, 0), (none, 0, 0), (none, 0, 0), [], []⟩ := ⟨(show (0 : Int) ≤ 3 ∧ (3 : Int) < 256 by decide), (show (0 : Int) ≤ 0 ∧ (0 : Int) < 256 by decide), ha, hB, (show (0 : Int) ≤ 0 ∧ (0 : Int) < 65536 by decide), (show (0 : Int) ≤ 0 ∧ (0 : Int) < 65536 by decide), (show (0 : Int) ≤ 0 ∧ (0 : Int) < 4294967296 by decide), PR.nil W, BS.nil W⟩
  refine (xHear_sack h.a hcv rfl hs.1 hre (by omega) hr hq rfl).mono ?_
  rintro e w' ⟨rfl, g', x', hh⟩
  obtain ⟨h1, h2, h3, h4⟩ := hh.out
  exact ⟨rfl, g', x', h2.b, keep ⟨h.upX h1 h2, h3, h4.trans how, h2⟩⟩
end
set_option maxHeartbeats 2000000 in
theorem pair_any {w W : World} (hb : Below w.heap.size w W) (a b m : Int) (ha : 0 ≤ a ∧ a < 4294967296) (hb2 : 0 ≤ b ∧ b < 4294967296) : Calls Tryz.prog 6 #[.int .u32 a, .int .u32 b, .int .i64 m] W fun e w' => ∃ gx gy, e = .returned (.tuple #[.pointer (some ⟨gx.b, 0, none⟩), .pointer (some ⟨gy.b, 0, none⟩)]) ∧ Hid (YY w w' gx gy (x0 a b 65536 4 m 4) (x0 b a 65536 4 m 4)) := by
  have K1 := keep (fun W1 => xNew_any a b 65536 4 m 4 ha hb2 (by decide) (by decide) (by decide) W1)
  have K2 := keep (fun W1 => xNew_any b a 65536 4 m 4 hb2 ha (by decide) (by decide) (by decide) W1)
  have HB := keep hb
  clear ha hb2 hb
  unfold cfg at K1 K2
  go_enter Tryz.func6, Tryz.ntmps6
  go_wp2_with (first
    | (go_at_call 12
       first
       | (have _ := H1; refine (K2.out _).mono ?_; rintro e w2 ⟨gy, rfl, H2⟩)
       | (refine (K1.out _).mono ?_; rintro e w1 ⟨gx, rfl, H1⟩)))
  refine bodyPost_ret (results_tmp2 rfl _ _ _) rfl ⟨gx, gy, rfl, keep ?_⟩
  have h1 := H1.out
  have h2 := H2.out
  have hs := HB.out.size
  exact ⟨h1.xa.step h2.be, h2.xa, fun i hi hj => by have := h1.xa.olt hi; have := h2.own i hj; omega, fun i hi => Nat.le_trans hs (h1.own i hi), fun i hi => Nat.le_trans hs (Nat.le_trans h1.be.size (h2.own i hi)), HB.out.trans ((h1.be.trans (h2.be.mono h1.be.size)).mono hs)⟩
end
end Go.Proofs.YtnlkdlnmffibhaaGreat
