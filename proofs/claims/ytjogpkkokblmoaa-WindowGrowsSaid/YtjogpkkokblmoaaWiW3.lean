/- The walk of the law WindowGrows. -/
import Derived.Test.YtjogpkkokblmoaaWi6
namespace Go.Proofs.Ytjogpkkokblmoaa
open Go.RowKit
set_option linter.unusedVariables false

/-- Three states as they lie, and what lies below. -/
structure Tri (w0 : World) (g h k : Nat) (s a l : WS) (W : World) : Prop where
  r : WB 26 W g s
  a : WB 26 W h a
  l : WB 26 W k l
  below : Below w0.heap.size w0 W
theorem Tri.step {w0 W W' : World} {g h k : Nat} {s a l : WS} (H : Tri w0 g h k s a l W) (hb : Below W.heap.size W W') : Tri w0 g h k s a l W' := ⟨H.r.step hb, H.a.step hb, H.l.step hb, up H.below hb⟩
theorem Tri.drew {w0 W : World} {g h k : Nat} {s a l : WS} (H : Tri w0 g h k s a l W) : Tri w0 g h k s a l W.drew := ⟨H.r, H.a, H.l, H.below.drew⟩
theorem Tri.cells {w0 W : World} {g h k : Nat} {cw th pa mt ex acw ath apa amt aex lcw lth lpa lmt lex : Int} {re are lre : Bool} (H : Tri w0 g h k ⟨cw, th, pa, mt, re, ex⟩ ⟨acw, ath, apa, amt, are, aex⟩ ⟨lcw, lth, lpa, lmt, lre, lex⟩ W) :
    W.cell? ⟨g, 0, none⟩ = some (.int .i64 cw) ∧ W.cell? ⟨g, 1, none⟩ = some (.int .i64 th) ∧ W.cell? ⟨g, 2, none⟩ = some (.int .i64 pa) ∧ W.cell? ⟨g, 3, none⟩ = some (.int .i64 mt) ∧ W.cell? ⟨g, 4, none⟩ = some (.bool re) ∧ W.cell? ⟨g, 5, none⟩ = some (.int .u32 ex) ∧
    W.cell? ⟨h, 0, none⟩ = some (.int .i64 acw) ∧
    W.cell? ⟨k, 0, none⟩ = some (.int .i64 lcw) ∧ W.cell? ⟨k, 1, none⟩ = some (.int .i64 lth) ∧ W.cell? ⟨k, 2, none⟩ = some (.int .i64 lpa) ∧ W.cell? ⟨k, 3, none⟩ = some (.int .i64 lmt) ∧ W.cell? ⟨k, 4, none⟩ = some (.bool lre) ∧ W.cell? ⟨k, 5, none⟩ = some (.int .u32 lex) := by
  obtain ⟨⟨d0, d1, d2, d3, d4, d5⟩, _⟩ := H.r.all
  obtain ⟨⟨x0, x1, x2, x3, x4, x5⟩, _⟩ := H.a.all
  obtain ⟨⟨y0, y1, y2, y3, y4, y5⟩, _⟩ := H.l.all
  exact ⟨d0, d1, d2, d3, d4, d5, x0, y0, y1, y2, y3, y4, y5⟩
set_option maxHeartbeats 4000000 in
theorem windowGrows_walk (s : WS) (n : Int) (full : Bool) (cum exit : Int) (w : World) (_ : True) (_ : (Lit.int .i64 n).wf = true) (_ : (Lit.int .u32 cum).wf = true) (_ : (Lit.int .u32 exit).wf = true) :
    Calls Try.prog 5 #[.agg s.cells, .int .i64 n, .bool full, .int .u32 cum, .int .u32 exit] w fun e w' => e = .returned (.bool true) ∧ Below w.heap.size w w' := by
  have K0 := keep (fun w => awake_any w)
  have K2 : ∀ w : World, Calls Try.prog 13 #[.agg s.cells] w fun e w' => e = .returned (.agg s.cells) ∧ Below w.heap.size w w' := fun w => theirs_any s w
  have K3 := fun w => May_any s w
  have R0 := WB.new 26 w s
  have L0 := below_lay w (.cells s.cells 26)
  by_cases hb : s.may = true
  · rw [hb] at K3
    obtain ⟨m1, m2, m3, m4⟩ := may_iff.1 hb
    have A1 := may_acked hb n full cum
    have B1 := may_lost hb exit
    have C1 := may_back hb
    have D1 := lost_lost hb exit cum
    have KA := fun w => Acked_any s n full cum w
    have KL := fun w => Lost_any s exit w
    have KM := fun w => Lost_any (s.lost exit) cum w
    have KT := fun w => Timeout_any s w
    have KH : ∀ w : World, Calls Try.prog 13 #[.agg (s.lost exit).cells] w fun e w' => e = .returned (.agg (s.lost exit).cells) ∧ Below w.heap.size w w' := fun w => theirs_any (s.lost exit) w
    have KE := fun w => alike_same (s.lost exit) w
    rw [D1] at KM
    clear D1 hb
    obtain ⟨a, ha⟩ : ∃ a, s.acked n full cum = a := ⟨_, rfl⟩
    obtain ⟨l, hl⟩ : ∃ l, s.lost exit = l := ⟨_, rfl⟩
    obtain ⟨t, ht⟩ : ∃ t, s.back = t := ⟨_, rfl⟩
    rw [ha] at KA A1
    rw [hl] at KL KM KH KE B1
    rw [ht] at KT C1
    clear ha hl ht
    obtain ⟨cw, th, pa, mt, re, ex⟩ := s
    obtain ⟨acw, ath, apa, amt, are, aex⟩ := a
    obtain ⟨lcw, lth, lpa, lmt, lre, lex⟩ := l
    obtain ⟨tcw, tth, tpa, tmt, tre, tex⟩ := t
    dsimp only at m1 m2 A1 B1 C1
    obtain ⟨_, A2, A3, A4⟩ := A1
    obtain ⟨_, B2, B3, B4⟩ := B1
    obtain ⟨_, C2, C3⟩ := C1
    subst B4
    replace A2 := A2.symm
    replace B2 := B2.symm
    replace C2 := C2.symm
    replace C3 := C3.symm
    subst A2
    subst B2
    subst C2
    subst C3
    clear m3 m4
    obtain ⟨e1, e2⟩ := wrap_in (cw + mt) (by omega)
    obtain ⟨e3, e4⟩ := wrap_in (4 * mt) (by omega)
    have KA' : ∀ w : World, Calls Try.prog 9 #[.agg #[.int .i64 cw, .int .i64 th, .int .i64 pa, .int .i64 mt, .bool re, .int .u32 ex], .int .i64 n, .bool full, .int .u32 cum] w fun r w' => r = .returned (.agg #[.int .i64 acw, .int .i64 ath, .int .i64 apa, .int .i64 mt, .bool are, .int .u32 aex]) ∧ Below w.heap.size w w' := KA
    have KL' : ∀ w : World, Calls Try.prog 10 #[.agg #[.int .i64 cw, .int .i64 th, .int .i64 pa, .int .i64 mt, .bool re, .int .u32 ex], .int .u32 exit] w fun r w' => r = .returned (.agg #[.int .i64 lcw, .int .i64 lth, .int .i64 lpa, .int .i64 mt, .bool true, .int .u32 lex]) ∧ Below w.heap.size w w' := KL
    have KM' : ∀ w : World, Calls Try.prog 10 #[.agg #[.int .i64 lcw, .int .i64 lth, .int .i64 lpa, .int .i64 mt, .bool true, .int .u32 lex], .int .u32 cum] w fun r w' => r = .returned (.agg #[.int .i64 lcw, .int .i64 lth, .int .i64 lpa, .int .i64 mt, .bool true, .int .u32 lex]) ∧ Below w.heap.size w w' := KM
    have KT' : ∀ w : World, Calls Try.prog 11 #[.agg #[.int .i64 cw, .int .i64 th, .int .i64 pa, .int .i64 mt, .bool re, .int .u32 ex]] w fun r w' => r = .returned (.agg #[.int .i64 mt, .int .i64 tth, .int .i64 tpa, .int .i64 mt, .bool tre, .int .u32 tex]) ∧ Below w.heap.size w w' := KT
    have hw1 := fun w => run_cw mt tth tpa mt tre tex w
    replace KA' := keep KA'
    replace KL' := keep KL'
    replace KM' := keep KM'
    replace KT' := keep KT'
    clear KA KL KM KT
    dsimp only [WS.cells] at R0 L0 K2 K3 KH KE ⊢
    replace R0 := keep R0
    replace L0 := keep L0
    replace K2 := keep K2
    replace K3 := keep K3
    replace KH := keep KH
    replace KE := keep KE
    rcases (show lcw ≤ cw ∨ (¬ lcw ≤ cw ∧ lcw ≤ 4 * mt) by omega) with hlc | ⟨hlc, hlc2⟩
    · clear B3
      go_enter Try.func5, Try.ntmps5
      go_wp2_with (first
        | (go_at_call 7; refine (K0.out _).mono ?_; rintro e w1 ⟨rfl, hb1⟩
           have R1 := R0.out.step hb1
           obtain ⟨⟨d0, d1, d2, d3, d4, d5⟩, _⟩ := R1.all
           dsimp only at d0 d1 d2 d3 d4 d5
           have L1 := keep (up L0.out hb1)
           replace R1 := keep R1
           clear hb1 R0 L0 K0)
        | (go_at_call 12; refine (K3.out _).mono ?_; rintro e w3 ⟨rfl, hb3⟩
           have R3 := R2.out.step hb3
           obtain ⟨⟨d0, d1, d2, d3, d4, d5⟩, _⟩ := R3.all
           dsimp only at d0 d1 d2 d3 d4 d5
           have L3 := keep (up L2.out hb3)
           replace R3 := keep R3
           clear hb3 R2 L2 K3)
        | (go_at_call 13
           have _isold := R1
           refine (K2.out _).mono ?_; rintro e w2 ⟨rfl, hb2⟩
           have R2 := R1.out.step hb2
           obtain ⟨⟨d0, d1, d2, d3, d4, d5⟩, _⟩ := R2.all
           dsimp only at d0 d1 d2 d3 d4 d5
           have L2 := keep (up L1.out hb2)
           replace R2 := keep R2
           clear hb2 R1 L1 K2 _isold)
        | (go_at_call 9; refine (KA'.out _).mono ?_; rintro e w4 ⟨rfl, hb4⟩
           have la := below_lay w4 (.cells (WS.cells ⟨acw, ath, apa, mt, are, aex⟩) 26)
           have R4 := (R3.out.step hb4).step la
           have A4' := WB.new 26 w4 ⟨acw, ath, apa, mt, are, aex⟩
           have L4 := keep (up (up L3.out hb4) la)
           obtain ⟨⟨d0, d1, d2, d3, d4, d5⟩, _⟩ := R4.all
           dsimp only [WS.cells] at d0 d1 d2 d3 d4 d5
           replace A4' := keep A4'
           replace R4 := keep R4
           clear la hb4 R3 L3 KA')
        | (go_at_call 10
           have _isold := R4
           refine (KL'.out _).mono ?_; rintro e w5 ⟨rfl, hb5⟩
           have la := below_lay w5 (.cells (WS.cells ⟨lcw, lth, lpa, mt, true, lex⟩) 26)
           have R5 := (R4.out.step hb5).step la
           have A5 := (A4'.out.step hb5).step la
           have B5 := WB.new 26 w5 ⟨lcw, lth, lpa, mt, true, lex⟩
           have L5 := keep (up (up L4.out hb5) la)
           obtain ⟨⟨d0, d1, d2, d3, d4, d5⟩, _⟩ := R5.all
           obtain ⟨⟨x0, x1, x2, x3, x4, x5⟩, _⟩ := A5.all
           obtain ⟨⟨y0, y1, y2, y3, y4, y5⟩, _⟩ := B5.all
           dsimp only [WS.cells] at d0 d1 d2 d3 d4 d5 x0 x1 x2 x3 x4 x5 y0 y1 y2 y3 y4 y5
           replace A5 := keep A5
           replace B5 := keep B5
           replace R5 := keep R5
           clear la hb5 R4 A4' L4 KL' _isold))
      have H := keep (Tri.drew ⟨R5.out, A5.out, B5.out, L5.out⟩)
      clear R5 A5 B5 L5 d0 d1 d2 d3 d4 d5 x0 x1 x2 x3 x4 x5 y0 y1 y2 y3 y4 y5
      dsimp only [WS.cells] at H
      generalize w5.alloc _ = W at H ⊢
      refine wp_region_held_drew (S := (fun w' => w'.cell? ⟨w.heap.size, 0, none⟩ = some (.int .i64 cw) ∧ w'.cell? ⟨w.heap.size, 1, none⟩ = some (.int .i64 th) ∧ w'.cell? ⟨w.heap.size, 2, none⟩ = some (.int .i64 pa) ∧ w'.cell? ⟨w.heap.size, 3, none⟩ = some (.int .i64 mt) ∧ w'.cell? ⟨w.heap.size, 4, none⟩ = some (.bool re) ∧ w'.cell? ⟨w.heap.size, 5, none⟩ = some (.int .u32 ex) ∧ w'.cell? ⟨w4.heap.size, 0, none⟩ = some (.int .i64 acw) ∧ w'.cell? ⟨w5.heap.size, 0, none⟩ = some (.int .i64 lcw) ∧ w'.cell? ⟨w5.heap.size, 1, none⟩ = some (.int .i64 lth) ∧ w'.cell? ⟨w5.heap.size, 2, none⟩ = some (.int .i64 lpa) ∧ w'.cell? ⟨w5.heap.size, 3, none⟩ = some (.int .i64 mt) ∧ w'.cell? ⟨w5.heap.size, 4, none⟩ = some (.bool true) ∧ w'.cell? ⟨w5.heap.size, 5, none⟩ = some (.int .u32 lex))) (by kernel_rfl) H.out.cells (fun hHeld => ?_)
      refine wpAnyH_take (i := 0) (oi := { dst := Option.some 28, op := Go.Op.move (Go.Operand.tmp 11), type := 4, pos := "law.go:85", after := #[], guard := Option.none }) (v := ?va0) rfl (by kernel_rfl) (by kernel_rfl) (by kernel_rfl) (fun _ _ _ h => h) (Or.inl ⟨by rfl, ?hya0⟩) (by assumption) ?resta0
      case hya0 => (intro wz hSw; (try dsimp only at hSw); go_simp <;> (try with_reducible rfl))
      try simp only [Act.put, List.setIfInBounds_toArray, List.set_cons_zero, List.set_cons_succ]
      refine wpAnyH_take (i := 1) (oi := { dst := Option.some 29, op := Go.Op.move (Go.Operand.tmp 28), type := 4, pos := "law.go:85", after := #[{ on := 0, ground := Go.Ground.data }], guard := Option.none }) (v := ?va1) rfl (by kernel_rfl) (by kernel_rfl) (by kernel_rfl) (fun _ _ _ h => h) (Or.inl ⟨by rfl, ?hya1⟩) (by assumption) ?resta1
      case hya1 => (intro wz hSw; (try dsimp only at hSw); go_simp <;> (try with_reducible rfl))
      try simp only [Act.put, List.setIfInBounds_toArray, List.set_cons_zero, List.set_cons_succ]
      refine wpAnyH_take (i := 2) (oi := { dst := Option.some 30, op := Go.Op.fieldAddr 26 (Go.Operand.tmp 12) 0, type := 0, pos := "law.go:85", after := #[{ on := 1, ground := Go.Ground.guard }], guard := Option.some (1, Bool.true) }) (v := ?va2) rfl (by kernel_rfl) (by kernel_rfl) (by kernel_rfl) (fun _ _ _ h => h) (Or.inl ⟨by rfl, ?hya2⟩) (by assumption) ?resta2
      case hya2 => (intro wz hSw; (try dsimp only at hSw); go_simp <;> (try with_reducible rfl))
      try simp only [Act.put, List.setIfInBounds_toArray, List.set_cons_zero, List.set_cons_succ]
      refine wpAnyH_take (i := 3) (oi := { dst := Option.some 31, op := Go.Op.load 3 (Go.Operand.tmp 30), type := 3, pos := "law.go:85", after := #[{ on := 2, ground := Go.Ground.data }, { on := 1, ground := Go.Ground.guard }], guard := Option.some (1, Bool.true) }) (v := ?va3) rfl (by kernel_rfl) (by kernel_rfl) (by kernel_rfl) (fun _ _ _ h => h) (Or.inl ⟨by rfl, ?hya3⟩) (by assumption) ?resta3
      case hya3 => (intro wz hSw; (try dsimp only at hSw); go_simp <;> (try with_reducible rfl))
      try simp only [Act.put, List.setIfInBounds_toArray, List.set_cons_zero, List.set_cons_succ]
      refine wpAnyH_take (i := 4) (oi := { dst := Option.some 32, op := Go.Op.fieldAddr 26 (Go.Operand.tmp 5) 0, type := 0, pos := "law.go:85", after := #[{ on := 1, ground := Go.Ground.guard }], guard := Option.some (1, Bool.true) }) (v := ?va4) rfl (by kernel_rfl) (by kernel_rfl) (by kernel_rfl) (fun _ _ _ h => h) (Or.inl ⟨by rfl, ?hya4⟩) (by assumption) ?resta4
      case hya4 => (intro wz hSw; (try dsimp only at hSw); go_simp <;> (try with_reducible rfl))
      try simp only [Act.put, List.setIfInBounds_toArray, List.set_cons_zero, List.set_cons_succ]
      refine wpAnyH_take (i := 5) (oi := { dst := Option.some 33, op := Go.Op.load 3 (Go.Operand.tmp 32), type := 3, pos := "law.go:85", after := #[{ on := 4, ground := Go.Ground.data }, { on := 1, ground := Go.Ground.guard }], guard := Option.some (1, Bool.true) }) (v := ?va5) rfl (by kernel_rfl) (by kernel_rfl) (by kernel_rfl) (fun _ _ _ h => h) (Or.inl ⟨by rfl, ?hya5⟩) (by assumption) ?resta5
      case hya5 => (intro wz hSw; (try dsimp only at hSw); go_simp <;> (try with_reducible rfl))
      try simp only [Act.put, List.setIfInBounds_toArray, List.set_cons_zero, List.set_cons_succ]
      refine wpAnyH_take (i := 6) (oi := { dst := Option.some 34, op := Go.Op.binOp Go.BinOp.geq 3 (Go.Operand.tmp 31) (Go.Operand.tmp 33) 3, type := 4, pos := "law.go:85", after := #[{ on := 3, ground := Go.Ground.data }, { on := 5, ground := Go.Ground.data }, { on := 1, ground := Go.Ground.guard }], guard := Option.some (1, Bool.true) }) (v := ?va6) rfl (by kernel_rfl) (by kernel_rfl) (by kernel_rfl) (fun _ _ _ h => h) (Or.inl ⟨by rfl, ?hya6⟩) (by assumption) ?resta6
      case hya6 => (intro wz hSw; (try dsimp only at hSw); go_simp <;> (try with_reducible rfl))
      try simp only [Act.put, List.setIfInBounds_toArray, List.set_cons_zero, List.set_cons_succ]
      refine wpAnyH_take (i := 7) (oi := { dst := Option.some 35, op := Go.Op.pick (Go.Operand.tmp 29) (Go.Operand.tmp 34) (Go.Operand.const (Go.Value.bool Bool.false)), type := 4, pos := "law.go:85", after := #[{ on := 1, ground := Go.Ground.data }, { on := 6, ground := Go.Ground.data }], guard := Option.none }) (v := ?va7) rfl (by kernel_rfl) (by kernel_rfl) (by kernel_rfl) (fun _ _ _ h => h) (Or.inl ⟨by rfl, ?hya7⟩) (by assumption) ?resta7
      case hya7 => (intro wz hSw; (try dsimp only at hSw); go_simp <;> (try with_reducible rfl))
      try simp only [Act.put, List.setIfInBounds_toArray, List.set_cons_zero, List.set_cons_succ]
      refine wpAnyH_take (i := 8) (oi := { dst := Option.some 36, op := Go.Op.move (Go.Operand.tmp 35), type := 4, pos := "law.go:85", after := #[{ on := 7, ground := Go.Ground.data }, { on := 1, ground := Go.Ground.chain }], guard := Option.none }) (v := ?va8) rfl (by kernel_rfl) (by kernel_rfl) (by kernel_rfl) (fun _ _ _ h => h) (Or.inl ⟨by rfl, ?hya8⟩) (by assumption) ?resta8
      case hya8 => (intro wz hSw; (try dsimp only at hSw); go_simp <;> (try with_reducible rfl))
      try simp only [Act.put, List.setIfInBounds_toArray, List.set_cons_zero, List.set_cons_succ]
      refine wpAnyH_take (i := 9) (oi := { dst := Option.some 37, op := Go.Op.fieldAddr 26 (Go.Operand.tmp 12) 0, type := 0, pos := "law.go:85", after := #[{ on := 8, ground := Go.Ground.guard }], guard := Option.some (8, Bool.true) }) (v := ?va9) rfl (by kernel_rfl) (by kernel_rfl) (by kernel_rfl) (fun _ _ _ h => h) (Or.inl ⟨by rfl, ?hya9⟩) (by assumption) ?resta9
      case hya9 => (intro wz hSw; (try dsimp only at hSw); go_simp <;> (try with_reducible rfl))
      try simp only [Act.put, List.setIfInBounds_toArray, List.set_cons_zero, List.set_cons_succ]
      refine wpAnyH_take (i := 10) (oi := { dst := Option.some 38, op := Go.Op.load 3 (Go.Operand.tmp 37), type := 3, pos := "law.go:85", after := #[{ on := 9, ground := Go.Ground.data }, { on := 8, ground := Go.Ground.guard }], guard := Option.some (8, Bool.true) }) (v := ?va10) rfl (by kernel_rfl) (by kernel_rfl) (by kernel_rfl) (fun _ _ _ h => h) (Or.inl ⟨by rfl, ?hya10⟩) (by assumption) ?resta10
      case hya10 => (intro wz hSw; (try dsimp only at hSw); go_simp <;> (try with_reducible rfl))
      try simp only [Act.put, List.setIfInBounds_toArray, List.set_cons_zero, List.set_cons_succ]
      refine wpAnyH_take (i := 11) (oi := { dst := Option.some 39, op := Go.Op.fieldAddr 26 (Go.Operand.tmp 5) 0, type := 0, pos := "law.go:85", after := #[{ on := 8, ground := Go.Ground.guard }], guard := Option.some (8, Bool.true) }) (v := ?va11) rfl (by kernel_rfl) (by kernel_rfl) (by kernel_rfl) (fun _ _ _ h => h) (Or.inl ⟨by rfl, ?hya11⟩) (by assumption) ?resta11
      case hya11 => (intro wz hSw; (try dsimp only at hSw); go_simp <;> (try with_reducible rfl))
      try simp only [Act.put, List.setIfInBounds_toArray, List.set_cons_zero, List.set_cons_succ]
      refine wpAnyH_take (i := 12) (oi := { dst := Option.some 40, op := Go.Op.load 3 (Go.Operand.tmp 39), type := 3, pos := "law.go:85", after := #[{ on := 11, ground := Go.Ground.data }, { on := 8, ground := Go.Ground.guard }], guard := Option.some (8, Bool.true) }) (v := ?va12) rfl (by kernel_rfl) (by kernel_rfl) (by kernel_rfl) (fun _ _ _ h => h) (Or.inl ⟨by rfl, ?hya12⟩) (by assumption) ?resta12
      case hya12 => (intro wz hSw; (try dsimp only at hSw); go_simp <;> (try with_reducible rfl))
      try simp only [Act.put, List.setIfInBounds_toArray, List.set_cons_zero, List.set_cons_succ]
      refine wpAnyH_take (i := 13) (oi := { dst := Option.some 41, op := Go.Op.fieldAddr 26 (Go.Operand.tmp 5) 3, type := 0, pos := "law.go:85", after := #[{ on := 8, ground := Go.Ground.guard }], guard := Option.some (8, Bool.true) }) (v := ?va13) rfl (by kernel_rfl) (by kernel_rfl) (by kernel_rfl) (fun _ _ _ h => h) (Or.inl ⟨by rfl, ?hya13⟩) (by assumption) ?resta13
      case hya13 => (intro wz hSw; (try dsimp only at hSw); go_simp <;> (try with_reducible rfl))
      try simp only [Act.put, List.setIfInBounds_toArray, List.set_cons_zero, List.set_cons_succ]
      refine wpAnyH_take (i := 14) (oi := { dst := Option.some 42, op := Go.Op.load 3 (Go.Operand.tmp 41), type := 3, pos := "law.go:85", after := #[{ on := 13, ground := Go.Ground.data }, { on := 8, ground := Go.Ground.guard }], guard := Option.some (8, Bool.true) }) (v := ?va14) rfl (by kernel_rfl) (by kernel_rfl) (by kernel_rfl) (fun _ _ _ h => h) (Or.inl ⟨by rfl, ?hya14⟩) (by assumption) ?resta14
      case hya14 => (intro wz hSw; (try dsimp only at hSw); go_simp <;> (try with_reducible rfl))
      try simp only [Act.put, List.setIfInBounds_toArray, List.set_cons_zero, List.set_cons_succ]
      refine wpAnyH_take (i := 15) (oi := { dst := Option.some 43, op := Go.Op.binOp Go.BinOp.add 3 (Go.Operand.tmp 40) (Go.Operand.tmp 42) 3, type := 3, pos := "law.go:85", after := #[{ on := 12, ground := Go.Ground.data }, { on := 14, ground := Go.Ground.data }, { on := 8, ground := Go.Ground.guard }], guard := Option.some (8, Bool.true) }) (v := ?va15) rfl (by kernel_rfl) (by kernel_rfl) (by kernel_rfl) (fun _ _ _ h => h) (Or.inl ⟨by rfl, ?hya15⟩) (by assumption) ?resta15
      case hya15 => (intro wz hSw; (try dsimp only at hSw); go_simp <;> (try with_reducible rfl))
      try simp only [Act.put, List.setIfInBounds_toArray, List.set_cons_zero, List.set_cons_succ]
      refine wpAnyH_take (i := 16) (oi := { dst := Option.some 44, op := Go.Op.binOp Go.BinOp.leq 3 (Go.Operand.tmp 38) (Go.Operand.tmp 43) 3, type := 4, pos := "law.go:85", after := #[{ on := 10, ground := Go.Ground.data }, { on := 15, ground := Go.Ground.data }, { on := 8, ground := Go.Ground.guard }], guard := Option.some (8, Bool.true) }) (v := ?va16) rfl (by kernel_rfl) (by kernel_rfl) (by kernel_rfl) (fun _ _ _ h => h) (Or.inl ⟨by rfl, ?hya16⟩) (by assumption) ?resta16
      case hya16 => (intro wz hSw; (try dsimp only at hSw); go_simp <;> (try with_reducible rfl))
      try simp only [Act.put, List.setIfInBounds_toArray, List.set_cons_zero, List.set_cons_succ]
      refine wpAnyH_take (i := 17) (oi := { dst := Option.some 45, op := Go.Op.pick (Go.Operand.tmp 36) (Go.Operand.tmp 44) (Go.Operand.const (Go.Value.bool Bool.false)), type := 4, pos := "law.go:85", after := #[{ on := 8, ground := Go.Ground.data }, { on := 16, ground := Go.Ground.data }], guard := Option.none }) (v := ?va17) rfl (by kernel_rfl) (by kernel_rfl) (by kernel_rfl) (fun _ _ _ h => h) (Or.inl ⟨by rfl, ?hya17⟩) (by assumption) ?resta17
      case hya17 => (intro wz hSw; (try dsimp only at hSw); go_simp <;> (try with_reducible rfl))
      try simp only [Act.put, List.setIfInBounds_toArray, List.set_cons_zero, List.set_cons_succ]
      refine wpAnyH_take (i := 18) (oi := { dst := Option.some 46, op := Go.Op.move (Go.Operand.tmp 45), type := 4, pos := "law.go:85", after := #[{ on := 17, ground := Go.Ground.data }, { on := 8, ground := Go.Ground.chain }], guard := Option.none }) (v := ?va18) rfl (by kernel_rfl) (by kernel_rfl) (by kernel_rfl) (fun _ _ _ h => h) (Or.inl ⟨by rfl, ?hya18⟩) (by assumption) ?resta18
      case hya18 => (intro wz hSw; (try dsimp only at hSw); go_simp <;> (try with_reducible rfl))
      try simp only [Act.put, List.setIfInBounds_toArray, List.set_cons_zero, List.set_cons_succ]
      refine wpAnyH_take (i := 19) (oi := { dst := Option.some 47, op := Go.Op.fieldAddr 26 (Go.Operand.tmp 13) 0, type := 0, pos := "law.go:85", after := #[{ on := 18, ground := Go.Ground.guard }], guard := Option.some (18, Bool.true) }) (v := ?va19) rfl (by kernel_rfl) (by kernel_rfl) (by kernel_rfl) (fun _ _ _ h => h) (Or.inl ⟨by rfl, ?hya19⟩) (by assumption) ?resta19
      case hya19 => (intro wz hSw; (try dsimp only at hSw); go_simp <;> (try with_reducible rfl))
      try simp only [Act.put, List.setIfInBounds_toArray, List.set_cons_zero, List.set_cons_succ]
      refine wpAnyH_take (i := 20) (oi := { dst := Option.some 48, op := Go.Op.load 3 (Go.Operand.tmp 47), type := 3, pos := "law.go:85", after := #[{ on := 19, ground := Go.Ground.data }, { on := 18, ground := Go.Ground.guard }], guard := Option.some (18, Bool.true) }) (v := ?va20) rfl (by kernel_rfl) (by kernel_rfl) (by kernel_rfl) (fun _ _ _ h => h) (Or.inl ⟨by rfl, ?hya20⟩) (by assumption) ?resta20
      case hya20 => (intro wz hSw; (try dsimp only at hSw); go_simp <;> (try with_reducible rfl))
      try simp only [Act.put, List.setIfInBounds_toArray, List.set_cons_zero, List.set_cons_succ]
      refine wpAnyH_take (i := 21) (oi := { dst := Option.some 49, op := Go.Op.fieldAddr 26 (Go.Operand.tmp 5) 0, type := 0, pos := "law.go:85", after := #[{ on := 18, ground := Go.Ground.guard }], guard := Option.some (18, Bool.true) }) (v := ?va21) rfl (by kernel_rfl) (by kernel_rfl) (by kernel_rfl) (fun _ _ _ h => h) (Or.inl ⟨by rfl, ?hya21⟩) (by assumption) ?resta21
      case hya21 => (intro wz hSw; (try dsimp only at hSw); go_simp <;> (try with_reducible rfl))
      try simp only [Act.put, List.setIfInBounds_toArray, List.set_cons_zero, List.set_cons_succ]
      refine wpAnyH_take (i := 22) (oi := { dst := Option.some 50, op := Go.Op.load 3 (Go.Operand.tmp 49), type := 3, pos := "law.go:85", after := #[{ on := 21, ground := Go.Ground.data }, { on := 18, ground := Go.Ground.guard }], guard := Option.some (18, Bool.true) }) (v := ?va22) rfl (by kernel_rfl) (by kernel_rfl) (by kernel_rfl) (fun _ _ _ h => h) (Or.inl ⟨by rfl, ?hya22⟩) (by assumption) ?resta22
      case hya22 => (intro wz hSw; (try dsimp only at hSw); go_simp <;> (try with_reducible rfl))
      try simp only [Act.put, List.setIfInBounds_toArray, List.set_cons_zero, List.set_cons_succ]
      refine wpAnyH_take (i := 23) (oi := { dst := Option.some 51, op := Go.Op.binOp Go.BinOp.leq 3 (Go.Operand.tmp 48) (Go.Operand.tmp 50) 3, type := 4, pos := "law.go:85", after := #[{ on := 20, ground := Go.Ground.data }, { on := 22, ground := Go.Ground.data }, { on := 18, ground := Go.Ground.guard }], guard := Option.some (18, Bool.true) }) (v := ?va23) rfl (by kernel_rfl) (by kernel_rfl) (by kernel_rfl) (fun _ _ _ h => h) (Or.inl ⟨by rfl, ?hya23⟩) (by assumption) ?resta23
      case hya23 => (intro wz hSw; (try dsimp only at hSw); go_simp <;> (try with_reducible rfl))
      try simp only [Act.put, List.setIfInBounds_toArray, List.set_cons_zero, List.set_cons_succ]
      refine wpAnyH_take (i := 24) (oi := { dst := Option.some 52, op := Go.Op.move (Go.Operand.tmp 51), type := 4, pos := "law.go:85", after := #[{ on := 23, ground := Go.Ground.data }, { on := 18, ground := Go.Ground.chain }, { on := 18, ground := Go.Ground.guard }], guard := Option.some (18, Bool.true) }) (v := ?va24) rfl (by kernel_rfl) (by kernel_rfl) (by kernel_rfl) (fun _ _ _ h => h) (Or.inl ⟨by rfl, ?hya24⟩) (by assumption) ?resta24
      case hya24 => (intro wz hSw; (try dsimp only at hSw); go_simp <;> (try with_reducible rfl))
      try simp only [Act.put, List.setIfInBounds_toArray, List.set_cons_zero, List.set_cons_succ]
      refine wpAnyH_take (i := 25) (oi := { dst := Option.some 53, op := Go.Op.fieldAddr 26 (Go.Operand.tmp 13) 0, type := 0, pos := "law.go:85", after := #[{ on := 24, ground := Go.Ground.guard }], guard := Option.some (24, Bool.false) }) (v := undef) rfl (by kernel_rfl) (by kernel_rfl) (by kernel_rfl) (fun _ _ _ h => h) (Or.inr ⟨by rfl, rfl⟩) (by assumption) ?_
      try simp only [Act.put, List.setIfInBounds_toArray, List.set_cons_zero, List.set_cons_succ]
      refine wpAnyH_take (i := 26) (oi := { dst := Option.some 54, op := Go.Op.load 3 (Go.Operand.tmp 53), type := 3, pos := "law.go:85", after := #[{ on := 25, ground := Go.Ground.data }, { on := 24, ground := Go.Ground.guard }], guard := Option.some (24, Bool.false) }) (v := undef) rfl (by kernel_rfl) (by kernel_rfl) (by kernel_rfl) (fun _ _ _ h => h) (Or.inr ⟨by rfl, rfl⟩) (by assumption) ?_
      try simp only [Act.put, List.setIfInBounds_toArray, List.set_cons_zero, List.set_cons_succ]
      refine wpAnyH_take (i := 27) (oi := { dst := Option.some 55, op := Go.Op.fieldAddr 26 (Go.Operand.tmp 5) 3, type := 0, pos := "law.go:85", after := #[{ on := 24, ground := Go.Ground.guard }], guard := Option.some (24, Bool.false) }) (v := undef) rfl (by kernel_rfl) (by kernel_rfl) (by kernel_rfl) (fun _ _ _ h => h) (Or.inr ⟨by rfl, rfl⟩) (by assumption) ?_
      try simp only [Act.put, List.setIfInBounds_toArray, List.set_cons_zero, List.set_cons_succ]
      refine wpAnyH_take (i := 28) (oi := { dst := Option.some 56, op := Go.Op.load 3 (Go.Operand.tmp 55), type := 3, pos := "law.go:85", after := #[{ on := 27, ground := Go.Ground.data }, { on := 24, ground := Go.Ground.guard }], guard := Option.some (24, Bool.false) }) (v := undef) rfl (by kernel_rfl) (by kernel_rfl) (by kernel_rfl) (fun _ _ _ h => h) (Or.inr ⟨by rfl, rfl⟩) (by assumption) ?_
      try simp only [Act.put, List.setIfInBounds_toArray, List.set_cons_zero, List.set_cons_succ]
      refine wpAnyH_take (i := 29) (oi := { dst := Option.some 57, op := Go.Op.binOp Go.BinOp.mul 3 (Go.Operand.const (Go.Value.int Go.IntKind.i64 4)) (Go.Operand.tmp 56) 3, type := 3, pos := "law.go:85", after := #[{ on := 28, ground := Go.Ground.data }, { on := 24, ground := Go.Ground.guard }], guard := Option.some (24, Bool.false) }) (v := undef) rfl (by kernel_rfl) (by kernel_rfl) (by kernel_rfl) (fun _ _ _ h => h) (Or.inr ⟨by rfl, rfl⟩) (by assumption) ?_
      try simp only [Act.put, List.setIfInBounds_toArray, List.set_cons_zero, List.set_cons_succ]
      refine wpAnyH_take (i := 30) (oi := { dst := Option.some 58, op := Go.Op.binOp Go.BinOp.leq 3 (Go.Operand.tmp 54) (Go.Operand.tmp 57) 3, type := 4, pos := "law.go:85", after := #[{ on := 26, ground := Go.Ground.data }, { on := 29, ground := Go.Ground.data }, { on := 24, ground := Go.Ground.guard }], guard := Option.some (24, Bool.false) }) (v := undef) rfl (by kernel_rfl) (by kernel_rfl) (by kernel_rfl) (fun _ _ _ h => h) (Or.inr ⟨by rfl, rfl⟩) (by assumption) ?_
      try simp only [Act.put, List.setIfInBounds_toArray, List.set_cons_zero, List.set_cons_succ]
      refine wpAnyH_take (i := 31) (oi := { dst := Option.some 59, op := Go.Op.pick (Go.Operand.tmp 52) (Go.Operand.const (Go.Value.bool Bool.true)) (Go.Operand.tmp 58), type := 4, pos := "law.go:85", after := #[{ on := 24, ground := Go.Ground.data }, { on := 30, ground := Go.Ground.data }, { on := 18, ground := Go.Ground.guard }], guard := Option.some (18, Bool.true) }) (v := ?va31) rfl (by kernel_rfl) (by kernel_rfl) (by kernel_rfl) (fun _ _ _ h => h) (Or.inl ⟨by rfl, ?hya31⟩) (by assumption) ?resta31
      case hya31 => (intro wz hSw; (try dsimp only at hSw); go_simp <;> (try with_reducible rfl))
      try simp only [Act.put, List.setIfInBounds_toArray, List.set_cons_zero, List.set_cons_succ]
      refine wpAnyH_take (i := 32) (oi := { dst := Option.some 60, op := Go.Op.pick (Go.Operand.tmp 46) (Go.Operand.tmp 59) (Go.Operand.const (Go.Value.bool Bool.false)), type := 4, pos := "law.go:85", after := #[{ on := 18, ground := Go.Ground.data }, { on := 31, ground := Go.Ground.data }], guard := Option.none }) (v := ?va32) rfl (by kernel_rfl) (by kernel_rfl) (by kernel_rfl) (fun _ _ _ h => h) (Or.inl ⟨by rfl, ?hya32⟩) (by assumption) ?resta32
      case hya32 => (intro wz hSw; (try dsimp only at hSw); go_simp <;> (try with_reducible rfl))
      try simp only [Act.put, List.setIfInBounds_toArray, List.set_cons_zero, List.set_cons_succ]
      refine wpAnyH_take (i := 33) (oi := { dst := Option.some 61, op := Go.Op.move (Go.Operand.tmp 60), type := 4, pos := "law.go:85", after := #[{ on := 32, ground := Go.Ground.data }, { on := 24, ground := Go.Ground.chain }], guard := Option.none }) (v := ?va33) rfl (by kernel_rfl) (by kernel_rfl) (by kernel_rfl) (fun _ _ _ h => h) (Or.inl ⟨by rfl, ?hya33⟩) (by assumption) ?resta33
      case hya33 => (intro wz hSw; (try dsimp only at hSw); go_simp <;> (try with_reducible rfl))
      try simp only [Act.put, List.setIfInBounds_toArray, List.set_cons_zero, List.set_cons_succ]
      refine wpAnyH_take (i := 34) (oi := { dst := Option.some 62, op := Go.Op.load 26 (Go.Operand.tmp 13), type := 26, pos := "law.go:85", after := #[{ on := 33, ground := Go.Ground.guard }], guard := Option.some (33, Bool.true) }) (v := ?va34) rfl (by kernel_rfl) (by kernel_rfl) (by kernel_rfl) (fun _ _ _ h => h) (Or.inl ⟨by rfl, ?hya34⟩) (by assumption) ?resta34
      case hya34 => (intro wz hSw; (try dsimp only at hSw); go_simp <;> (try with_reducible rfl))
      try simp only [Act.put, List.setIfInBounds_toArray, List.set_cons_zero, List.set_cons_succ]
      refine wpAnyH_take (i := 35) (oi := { dst := Option.some 63, op := Go.Op.move (Go.Operand.tmp 3), type := 24, pos := "law.go:85", after := #[{ on := 33, ground := Go.Ground.guard }], guard := Option.some (33, Bool.true) }) (v := ?va35) rfl (by kernel_rfl) (by kernel_rfl) (by kernel_rfl) (fun _ _ _ h => h) (Or.inl ⟨by rfl, ?hya35⟩) (by assumption) ?resta35
      case hya35 => (intro wz hSw; (try dsimp only at hSw); go_simp <;> (try with_reducible rfl))
      try simp only [Act.put, List.setIfInBounds_toArray, List.set_cons_zero, List.set_cons_succ]
      refine wpAnyH_take (i := 37) (oi := { dst := Option.some 65, op := Go.Op.load 26 (Go.Operand.tmp 13), type := 26, pos := "law.go:85", after := #[{ on := 33, ground := Go.Ground.guard }], guard := Option.some (33, Bool.true) }) (v := ?va37) rfl (by kernel_rfl) (by kernel_rfl) (by kernel_rfl) (fun _ _ _ h => h) (Or.inl ⟨by rfl, ?hya37⟩) (by assumption) ?resta37
      case hya37 => (intro wz hSw; (try dsimp only at hSw); go_simp <;> (try with_reducible rfl))
      try simp only [Act.put, List.setIfInBounds_toArray, List.set_cons_zero, List.set_cons_succ]
      refine wpAnyH_ready (rs := [36]) (by kernel_rfl) (by simp) (AllReadyH.cons (o := { dst := Option.some 64, op := Go.Op.call { callee := Go.Callee.value (Go.Operand.func 10), args := #[Go.Operand.tmp 62, Go.Operand.tmp 63], argTypes := #[26, 24] }, type := 26, pos := "law.go:85", after := #[{ on := 34, ground := Go.Ground.data }, { on := 35, ground := Go.Ground.data }, { on := 33, ground := Go.Ground.chain }, { on := 33, ground := Go.Ground.guard }], guard := Option.some (33, Bool.true) }) rfl (fun K hK => ?_) AllReadyH.nil)
      go_simp
      go_at_call 10
      refine (KM'.out _).mono ?_
      rintro e x36 ⟨rfl, hb36⟩
      replace H := keep (H.out.step hb36)
      clear hb36
      (try go_wp2_with fail)
      refine hK.out _ _ H.out.cells (fun hHeld => ?_)
      clear hK K
      try simp only [Act.put, List.setIfInBounds_toArray, List.set_cons_zero, List.set_cons_succ]
      refine wpAnyH_ready (rs := [38]) (by kernel_rfl) (by simp) (AllReadyH.cons (o := { dst := Option.some 66, op := Go.Op.call { callee := Go.Callee.value (Go.Operand.func 13), args := #[Go.Operand.tmp 65], argTypes := #[26] }, type := 34, pos := "law.go:85", after := #[{ on := 37, ground := Go.Ground.data }, { on := 36, ground := Go.Ground.chain }, { on := 33, ground := Go.Ground.guard }], guard := Option.some (33, Bool.true) }) rfl (fun K hK => ?_) AllReadyH.nil)
      go_simp
      go_at_call 13
      refine (KH.out _).mono ?_
      rintro e x38 ⟨rfl, hb38⟩
      replace H := keep (H.out.step hb38)
      clear hb38
      (try go_wp2_with fail)
      refine hK.out _ _ H.out.cells (fun hHeld => ?_)
      clear hK K
      try simp only [Act.put, List.setIfInBounds_toArray, List.set_cons_zero, List.set_cons_succ]
      refine wpAnyH_ready (rs := [39]) (by kernel_rfl) (by simp) (AllReadyH.cons (o := { dst := Option.some 67, op := Go.Op.call { callee := Go.Callee.value (Go.Operand.func 15), args := #[Go.Operand.tmp 64, Go.Operand.tmp 66], argTypes := #[26, 34] }, type := 4, pos := "law.go:85", after := #[{ on := 36, ground := Go.Ground.data }, { on := 38, ground := Go.Ground.data }, { on := 38, ground := Go.Ground.chain }, { on := 33, ground := Go.Ground.guard }], guard := Option.some (33, Bool.true) }) rfl (fun K hK => ?_) AllReadyH.nil)
      go_simp
      go_at_call 15
      refine (KE.out _).mono ?_
      rintro e x39 ⟨rfl, hb39⟩
      replace H := keep (H.out.step hb39)
      clear hb39
      (try go_wp2_with fail)
      refine hK.out _ _ H.out.cells (fun hHeld => ?_)
      clear hK K
      try simp only [Act.put, List.setIfInBounds_toArray, List.set_cons_zero, List.set_cons_succ]
      refine wpAnyH_take (i := 40) (oi := { dst := Option.some 68, op := Go.Op.pick (Go.Operand.tmp 61) (Go.Operand.tmp 67) (Go.Operand.const (Go.Value.bool Bool.false)), type := 4, pos := "law.go:85", after := #[{ on := 33, ground := Go.Ground.data }, { on := 39, ground := Go.Ground.data }], guard := Option.none }) (v := ?va40) rfl (by kernel_rfl) (by kernel_rfl) (by kernel_rfl) (fun _ _ _ h => h) (Or.inl ⟨by rfl, ?hya40⟩) (by assumption) ?resta40
      case hya40 => (intro wz hSw; (try dsimp only at hSw); go_simp <;> (try with_reducible rfl))
      try simp only [Act.put, List.setIfInBounds_toArray, List.set_cons_zero, List.set_cons_succ]
      refine wpAnyH_take (i := 41) (oi := { dst := Option.some 69, op := Go.Op.move (Go.Operand.tmp 68), type := 4, pos := "law.go:85", after := #[{ on := 40, ground := Go.Ground.data }, { on := 39, ground := Go.Ground.chain }], guard := Option.none }) (v := ?va41) rfl (by kernel_rfl) (by kernel_rfl) (by kernel_rfl) (fun _ _ _ h => h) (Or.inl ⟨by rfl, ?hya41⟩) (by assumption) ?resta41
      case hya41 => (intro wz hSw; (try dsimp only at hSw); go_simp <;> (try with_reducible rfl))
      try simp only [Act.put, List.setIfInBounds_toArray, List.set_cons_zero, List.set_cons_succ]
      refine wpAnyH_take (i := 42) (oi := { dst := Option.some 70, op := Go.Op.fieldAddr 26 (Go.Operand.tmp 13) 4, type := 0, pos := "law.go:85", after := #[{ on := 41, ground := Go.Ground.guard }], guard := Option.some (41, Bool.true) }) (v := ?va42) rfl (by kernel_rfl) (by kernel_rfl) (by kernel_rfl) (fun _ _ _ h => h) (Or.inl ⟨by rfl, ?hya42⟩) (by assumption) ?resta42
      case hya42 => (intro wz hSw; (try dsimp only at hSw); go_simp <;> (try with_reducible rfl))
      try simp only [Act.put, List.setIfInBounds_toArray, List.set_cons_zero, List.set_cons_succ]
      refine wpAnyH_take (i := 43) (oi := { dst := Option.some 71, op := Go.Op.load 4 (Go.Operand.tmp 70), type := 4, pos := "law.go:85", after := #[{ on := 42, ground := Go.Ground.data }, { on := 41, ground := Go.Ground.guard }], guard := Option.some (41, Bool.true) }) (v := ?va43) rfl (by kernel_rfl) (by kernel_rfl) (by kernel_rfl) (fun _ _ _ h => h) (Or.inl ⟨by rfl, ?hya43⟩) (by assumption) ?resta43
      case hya43 => (intro wz hSw; (try dsimp only at hSw); go_simp <;> (try with_reducible rfl))
      try simp only [Act.put, List.setIfInBounds_toArray, List.set_cons_zero, List.set_cons_succ]
      refine wpAnyH_take (i := 44) (oi := { dst := Option.some 72, op := Go.Op.pick (Go.Operand.tmp 69) (Go.Operand.tmp 71) (Go.Operand.const (Go.Value.bool Bool.false)), type := 4, pos := "law.go:85", after := #[{ on := 41, ground := Go.Ground.data }, { on := 43, ground := Go.Ground.data }], guard := Option.none }) (v := ?va44) rfl (by kernel_rfl) (by kernel_rfl) (by kernel_rfl) (fun _ _ _ h => h) (Or.inl ⟨by rfl, ?hya44⟩) (by assumption) ?resta44
      case hya44 => (intro wz hSw; (try dsimp only at hSw); go_simp <;> (try with_reducible rfl))
      try simp only [Act.put, List.setIfInBounds_toArray, List.set_cons_zero, List.set_cons_succ]
      refine wpAnyH_take (i := 45) (oi := { dst := Option.some 73, op := Go.Op.move (Go.Operand.tmp 72), type := 4, pos := "law.go:85", after := #[{ on := 44, ground := Go.Ground.data }, { on := 41, ground := Go.Ground.chain }], guard := Option.none }) (v := ?va45) rfl (by kernel_rfl) (by kernel_rfl) (by kernel_rfl) (fun _ _ _ h => h) (Or.inl ⟨by rfl, ?hya45⟩) (by assumption) ?resta45
      case hya45 => (intro wz hSw; (try dsimp only at hSw); go_simp <;> (try with_reducible rfl))
      try simp only [Act.put, List.setIfInBounds_toArray, List.set_cons_zero, List.set_cons_succ]
      refine wpAnyH_take (i := 46) (oi := { dst := Option.some 74, op := Go.Op.load 26 (Go.Operand.tmp 5), type := 26, pos := "law.go:85", after := #[{ on := 45, ground := Go.Ground.guard }], guard := Option.some (45, Bool.true) }) (v := ?va46) rfl (by kernel_rfl) (by kernel_rfl) (by kernel_rfl) (fun _ _ _ h => h) (Or.inl ⟨by rfl, ?hya46⟩) (by assumption) ?resta46
      case hya46 => (intro wz hSw; (try dsimp only at hSw); go_simp <;> (try with_reducible rfl))
      try simp only [Act.put, List.setIfInBounds_toArray, List.set_cons_zero, List.set_cons_succ]
      refine wpAnyH_take (i := 49) (oi := { dst := Option.some 77, op := Go.Op.fieldAddr 26 (Go.Operand.tmp 5) 3, type := 0, pos := "law.go:85", after := #[{ on := 45, ground := Go.Ground.guard }], guard := Option.some (45, Bool.true) }) (v := ?va49) rfl (by kernel_rfl) (by kernel_rfl) (by kernel_rfl) (fun _ _ _ h => h) (Or.inl ⟨by rfl, ?hya49⟩) (by assumption) ?resta49
      case hya49 => (intro wz hSw; (try dsimp only at hSw); go_simp <;> (try with_reducible rfl))
      try simp only [Act.put, List.setIfInBounds_toArray, List.set_cons_zero, List.set_cons_succ]
      refine wpAnyH_take (i := 50) (oi := { dst := Option.some 78, op := Go.Op.load 3 (Go.Operand.tmp 77), type := 3, pos := "law.go:85", after := #[{ on := 49, ground := Go.Ground.data }, { on := 45, ground := Go.Ground.guard }], guard := Option.some (45, Bool.true) }) (v := ?va50) rfl (by kernel_rfl) (by kernel_rfl) (by kernel_rfl) (fun _ _ _ h => h) (Or.inl ⟨by rfl, ?hya50⟩) (by assumption) ?resta50
      case hya50 => (intro wz hSw; (try dsimp only at hSw); go_simp <;> (try with_reducible rfl))
      try simp only [Act.put, List.setIfInBounds_toArray, List.set_cons_zero, List.set_cons_succ]
      refine wpAnyH_ready (rs := [47]) (by kernel_rfl) (by simp) (AllReadyH.cons (o := { dst := Option.some 75, op := Go.Op.call { callee := Go.Callee.value (Go.Operand.func 11), args := #[Go.Operand.tmp 74], argTypes := #[26] }, type := 26, pos := "law.go:85", after := #[{ on := 46, ground := Go.Ground.data }, { on := 45, ground := Go.Ground.chain }, { on := 45, ground := Go.Ground.guard }], guard := Option.some (45, Bool.true) }) rfl (fun K hK => ?_) AllReadyH.nil)
      go_simp
      go_at_call 11
      refine (KT'.out _).mono ?_
      rintro e x47 ⟨rfl, hb47⟩
      replace H := keep (H.out.step hb47)
      clear hb47
      (try go_wp2_with fail)
      refine hK.out _ _ H.out.cells (fun hHeld => ?_)
      clear hK K
      try simp only [Act.put, List.setIfInBounds_toArray, List.set_cons_zero, List.set_cons_succ]
      refine wpAnyH_take (i := 48) (oi := { dst := Option.some 76, op := Go.Op.field 26 (Go.Operand.tmp 75) 0, type := 3, pos := "law.go:85", after := #[{ on := 47, ground := Go.Ground.data }, { on := 45, ground := Go.Ground.guard }], guard := Option.some (45, Bool.true) }) (v := ?va48) rfl (by kernel_rfl) (by kernel_rfl) (by kernel_rfl) (fun _ _ _ h => h) (Or.inl ⟨by rfl, ?hya48⟩) (by assumption) ?resta48
      case hya48 => (intro wz hSw; (try dsimp only at hSw); go_simp <;> (try with_reducible rfl))
      try simp only [Act.put, List.setIfInBounds_toArray, List.set_cons_zero, List.set_cons_succ]
      refine wpAnyH_take (i := 51) (oi := { dst := Option.some 79, op := Go.Op.binOp Go.BinOp.eql 3 (Go.Operand.tmp 76) (Go.Operand.tmp 78) 3, type := 4, pos := "law.go:85", after := #[{ on := 48, ground := Go.Ground.data }, { on := 50, ground := Go.Ground.data }, { on := 45, ground := Go.Ground.guard }], guard := Option.some (45, Bool.true) }) (v := ?va51) rfl (by kernel_rfl) (by kernel_rfl) (by kernel_rfl) (fun _ _ _ h => h) (Or.inl ⟨by rfl, ?hya51⟩) (by assumption) ?resta51
      case hya51 => (intro wz hSw; (try dsimp only at hSw); go_simp <;> (try with_reducible rfl))
      try simp only [Act.put, List.setIfInBounds_toArray, List.set_cons_zero, List.set_cons_succ]
      refine wpAnyH_take (i := 52) (oi := { dst := Option.some 80, op := Go.Op.pick (Go.Operand.tmp 73) (Go.Operand.tmp 79) (Go.Operand.const (Go.Value.bool Bool.false)), type := 4, pos := "law.go:85", after := #[{ on := 45, ground := Go.Ground.data }, { on := 51, ground := Go.Ground.data }], guard := Option.none }) (v := ?va52) rfl (by kernel_rfl) (by kernel_rfl) (by kernel_rfl) (fun _ _ _ h => h) (Or.inl ⟨by rfl, ?hya52⟩) (by assumption) ?resta52
      case hya52 => (intro wz hSw; (try dsimp only at hSw); go_simp <;> (try with_reducible rfl))
      try simp only [Act.put, List.setIfInBounds_toArray, List.set_cons_zero, List.set_cons_succ]
      refine wpAnyH_take (i := 53) (oi := { dst := Option.some 10, op := Go.Op.assign (Go.Operand.tmp 80), type := 4, pos := "law.go:85", after := #[{ on := 52, ground := Go.Ground.data }, { on := 47, ground := Go.Ground.chain }, { on := 0, ground := Go.Ground.phase }, { on := 1, ground := Go.Ground.phase }, { on := 2, ground := Go.Ground.phase }, { on := 3, ground := Go.Ground.phase }, { on := 4, ground := Go.Ground.phase }, { on := 5, ground := Go.Ground.phase }, { on := 6, ground := Go.Ground.phase }, { on := 7, ground := Go.Ground.phase }, { on := 8, ground := Go.Ground.phase }, { on := 9, ground := Go.Ground.phase }, { on := 10, ground := Go.Ground.phase }, { on := 11, ground := Go.Ground.phase }, { on := 12, ground := Go.Ground.phase }, { on := 13, ground := Go.Ground.phase }, { on := 14, ground := Go.Ground.phase }, { on := 15, ground := Go.Ground.phase }, { on := 16, ground := Go.Ground.phase }, { on := 17, ground := Go.Ground.phase }, { on := 18, ground := Go.Ground.phase }, { on := 19, ground := Go.Ground.phase }, { on := 20, ground := Go.Ground.phase }, { on := 21, ground := Go.Ground.phase }, { on := 22, ground := Go.Ground.phase }, { on := 23, ground := Go.Ground.phase }, { on := 24, ground := Go.Ground.phase }, { on := 25, ground := Go.Ground.phase }, { on := 26, ground := Go.Ground.phase }, { on := 27, ground := Go.Ground.phase }, { on := 28, ground := Go.Ground.phase }, { on := 29, ground := Go.Ground.phase }, { on := 30, ground := Go.Ground.phase }, { on := 31, ground := Go.Ground.phase }, { on := 32, ground := Go.Ground.phase }, { on := 33, ground := Go.Ground.phase }, { on := 34, ground := Go.Ground.phase }, { on := 35, ground := Go.Ground.phase }, { on := 36, ground := Go.Ground.phase }, { on := 37, ground := Go.Ground.phase }, { on := 38, ground := Go.Ground.phase }, { on := 39, ground := Go.Ground.phase }, { on := 40, ground := Go.Ground.phase }, { on := 41, ground := Go.Ground.phase }, { on := 42, ground := Go.Ground.phase }, { on := 43, ground := Go.Ground.phase }, { on := 44, ground := Go.Ground.phase }, { on := 45, ground := Go.Ground.phase }, { on := 46, ground := Go.Ground.phase }, { on := 47, ground := Go.Ground.phase }, { on := 48, ground := Go.Ground.phase }, { on := 49, ground := Go.Ground.phase }, { on := 50, ground := Go.Ground.phase }, { on := 51, ground := Go.Ground.phase }, { on := 52, ground := Go.Ground.phase }], guard := Option.none }) (v := ?va53) rfl (by kernel_rfl) (by kernel_rfl) (by kernel_rfl) (fun _ _ _ h => h) (Or.inl ⟨by rfl, ?hya53⟩) (by assumption) ?resta53
      case hya53 => (intro wz hSw; (try dsimp only at hSw); go_simp <;> (try with_reducible rfl))
      try simp only [Act.put, List.setIfInBounds_toArray, List.set_cons_zero, List.set_cons_succ]
      refine wpAnyH_done (by kernel_rfl) ?_ _
      go_wp2_with fail
      go_ret
      exact ⟨rfl, H.out.below⟩
    · clear B3
      go_enter Try.func5, Try.ntmps5
      go_wp2_with (first
        | (go_at_call 7; refine (K0.out _).mono ?_; rintro e w1 ⟨rfl, hb1⟩
           have R1 := R0.out.step hb1
           obtain ⟨⟨d0, d1, d2, d3, d4, d5⟩, _⟩ := R1.all
           dsimp only at d0 d1 d2 d3 d4 d5
           have L1 := keep (up L0.out hb1)
           replace R1 := keep R1
           clear hb1 R0 L0 K0)
        | (go_at_call 12; refine (K3.out _).mono ?_; rintro e w3 ⟨rfl, hb3⟩
           have R3 := R2.out.step hb3
           obtain ⟨⟨d0, d1, d2, d3, d4, d5⟩, _⟩ := R3.all
           dsimp only at d0 d1 d2 d3 d4 d5
           have L3 := keep (up L2.out hb3)
           replace R3 := keep R3
           clear hb3 R2 L2 K3)
        | (go_at_call 13
           have _isold := R1
           refine (K2.out _).mono ?_; rintro e w2 ⟨rfl, hb2⟩
           have R2 := R1.out.step hb2
           obtain ⟨⟨d0, d1, d2, d3, d4, d5⟩, _⟩ := R2.all
           dsimp only at d0 d1 d2 d3 d4 d5
           have L2 := keep (up L1.out hb2)
           replace R2 := keep R2
           clear hb2 R1 L1 K2 _isold)
        | (go_at_call 9; refine (KA'.out _).mono ?_; rintro e w4 ⟨rfl, hb4⟩
           have la := below_lay w4 (.cells (WS.cells ⟨acw, ath, apa, mt, are, aex⟩) 26)
           have R4 := (R3.out.step hb4).step la
           have A4' := WB.new 26 w4 ⟨acw, ath, apa, mt, are, aex⟩
           have L4 := keep (up (up L3.out hb4) la)
           obtain ⟨⟨d0, d1, d2, d3, d4, d5⟩, _⟩ := R4.all
           dsimp only [WS.cells] at d0 d1 d2 d3 d4 d5
           replace A4' := keep A4'
           replace R4 := keep R4
           clear la hb4 R3 L3 KA')
        | (go_at_call 10
           have _isold := R4
           refine (KL'.out _).mono ?_; rintro e w5 ⟨rfl, hb5⟩
           have la := below_lay w5 (.cells (WS.cells ⟨lcw, lth, lpa, mt, true, lex⟩) 26)
           have R5 := (R4.out.step hb5).step la
           have A5 := (A4'.out.step hb5).step la
           have B5 := WB.new 26 w5 ⟨lcw, lth, lpa, mt, true, lex⟩
           have L5 := keep (up (up L4.out hb5) la)
           obtain ⟨⟨d0, d1, d2, d3, d4, d5⟩, _⟩ := R5.all
           obtain ⟨⟨x0, x1, x2, x3, x4, x5⟩, _⟩ := A5.all
           obtain ⟨⟨y0, y1, y2, y3, y4, y5⟩, _⟩ := B5.all
           dsimp only [WS.cells] at d0 d1 d2 d3 d4 d5 x0 x1 x2 x3 x4 x5 y0 y1 y2 y3 y4 y5
           replace A5 := keep A5
           replace B5 := keep B5
           replace R5 := keep R5
           clear la hb5 R4 A4' L4 KL' _isold))
      have H := keep (Tri.drew ⟨R5.out, A5.out, B5.out, L5.out⟩)
      clear R5 A5 B5 L5 d0 d1 d2 d3 d4 d5 x0 x1 x2 x3 x4 x5 y0 y1 y2 y3 y4 y5
      dsimp only [WS.cells] at H
      generalize w5.alloc _ = W at H ⊢
      have hlc3 : ¬ lcw ≤ cw := by omega
      refine wp_region_held_drew (S := (fun w' => w'.cell? ⟨w.heap.size, 0, none⟩ = some (.int .i64 cw) ∧ w'.cell? ⟨w.heap.size, 1, none⟩ = some (.int .i64 th) ∧ w'.cell? ⟨w.heap.size, 2, none⟩ = some (.int .i64 pa) ∧ w'.cell? ⟨w.heap.size, 3, none⟩ = some (.int .i64 mt) ∧ w'.cell? ⟨w.heap.size, 4, none⟩ = some (.bool re) ∧ w'.cell? ⟨w.heap.size, 5, none⟩ = some (.int .u32 ex) ∧ w'.cell? ⟨w4.heap.size, 0, none⟩ = some (.int .i64 acw) ∧ w'.cell? ⟨w5.heap.size, 0, none⟩ = some (.int .i64 lcw) ∧ w'.cell? ⟨w5.heap.size, 1, none⟩ = some (.int .i64 lth) ∧ w'.cell? ⟨w5.heap.size, 2, none⟩ = some (.int .i64 lpa) ∧ w'.cell? ⟨w5.heap.size, 3, none⟩ = some (.int .i64 mt) ∧ w'.cell? ⟨w5.heap.size, 4, none⟩ = some (.bool true) ∧ w'.cell? ⟨w5.heap.size, 5, none⟩ = some (.int .u32 lex))) (by kernel_rfl) H.out.cells (fun hHeld => ?_)
      refine wpAnyH_take (i := 0) (oi := { dst := Option.some 28, op := Go.Op.move (Go.Operand.tmp 11), type := 4, pos := "law.go:85", after := #[], guard := Option.none }) (v := ?vb0) rfl (by kernel_rfl) (by kernel_rfl) (by kernel_rfl) (fun _ _ _ h => h) (Or.inl ⟨by rfl, ?hyb0⟩) (by assumption) ?restb0
      case hyb0 => (intro wz hSw; (try dsimp only at hSw); go_simp <;> (try with_reducible rfl))
      try simp only [Act.put, List.setIfInBounds_toArray, List.set_cons_zero, List.set_cons_succ]
      refine wpAnyH_take (i := 1) (oi := { dst := Option.some 29, op := Go.Op.move (Go.Operand.tmp 28), type := 4, pos := "law.go:85", after := #[{ on := 0, ground := Go.Ground.data }], guard := Option.none }) (v := ?vb1) rfl (by kernel_rfl) (by kernel_rfl) (by kernel_rfl) (fun _ _ _ h => h) (Or.inl ⟨by rfl, ?hyb1⟩) (by assumption) ?restb1
      case hyb1 => (intro wz hSw; (try dsimp only at hSw); go_simp <;> (try with_reducible rfl))
      try simp only [Act.put, List.setIfInBounds_toArray, List.set_cons_zero, List.set_cons_succ]
      refine wpAnyH_take (i := 2) (oi := { dst := Option.some 30, op := Go.Op.fieldAddr 26 (Go.Operand.tmp 12) 0, type := 0, pos := "law.go:85", after := #[{ on := 1, ground := Go.Ground.guard }], guard := Option.some (1, Bool.true) }) (v := ?vb2) rfl (by kernel_rfl) (by kernel_rfl) (by kernel_rfl) (fun _ _ _ h => h) (Or.inl ⟨by rfl, ?hyb2⟩) (by assumption) ?restb2
      case hyb2 => (intro wz hSw; (try dsimp only at hSw); go_simp <;> (try with_reducible rfl))
      try simp only [Act.put, List.setIfInBounds_toArray, List.set_cons_zero, List.set_cons_succ]
      refine wpAnyH_take (i := 3) (oi := { dst := Option.some 31, op := Go.Op.load 3 (Go.Operand.tmp 30), type := 3, pos := "law.go:85", after := #[{ on := 2, ground := Go.Ground.data }, { on := 1, ground := Go.Ground.guard }], guard := Option.some (1, Bool.true) }) (v := ?vb3) rfl (by kernel_rfl) (by kernel_rfl) (by kernel_rfl) (fun _ _ _ h => h) (Or.inl ⟨by rfl, ?hyb3⟩) (by assumption) ?restb3
      case hyb3 => (intro wz hSw; (try dsimp only at hSw); go_simp <;> (try with_reducible rfl))
      try simp only [Act.put, List.setIfInBounds_toArray, List.set_cons_zero, List.set_cons_succ]
      refine wpAnyH_take (i := 4) (oi := { dst := Option.some 32, op := Go.Op.fieldAddr 26 (Go.Operand.tmp 5) 0, type := 0, pos := "law.go:85", after := #[{ on := 1, ground := Go.Ground.guard }], guard := Option.some (1, Bool.true) }) (v := ?vb4) rfl (by kernel_rfl) (by kernel_rfl) (by kernel_rfl) (fun _ _ _ h => h) (Or.inl ⟨by rfl, ?hyb4⟩) (by assumption) ?restb4
      case hyb4 => (intro wz hSw; (try dsimp only at hSw); go_simp <;> (try with_reducible rfl))
      try simp only [Act.put, List.setIfInBounds_toArray, List.set_cons_zero, List.set_cons_succ]
      refine wpAnyH_take (i := 5) (oi := { dst := Option.some 33, op := Go.Op.load 3 (Go.Operand.tmp 32), type := 3, pos := "law.go:85", after := #[{ on := 4, ground := Go.Ground.data }, { on := 1, ground := Go.Ground.guard }], guard := Option.some (1, Bool.true) }) (v := ?vb5) rfl (by kernel_rfl) (by kernel_rfl) (by kernel_rfl) (fun _ _ _ h => h) (Or.inl ⟨by rfl, ?hyb5⟩) (by assumption) ?restb5
      case hyb5 => (intro wz hSw; (try dsimp only at hSw); go_simp <;> (try with_reducible rfl))
      try simp only [Act.put, List.setIfInBounds_toArray, List.set_cons_zero, List.set_cons_succ]
      refine wpAnyH_take (i := 6) (oi := { dst := Option.some 34, op := Go.Op.binOp Go.BinOp.geq 3 (Go.Operand.tmp 31) (Go.Operand.tmp 33) 3, type := 4, pos := "law.go:85", after := #[{ on := 3, ground := Go.Ground.data }, { on := 5, ground := Go.Ground.data }, { on := 1, ground := Go.Ground.guard }], guard := Option.some (1, Bool.true) }) (v := ?vb6) rfl (by kernel_rfl) (by kernel_rfl) (by kernel_rfl) (fun _ _ _ h => h) (Or.inl ⟨by rfl, ?hyb6⟩) (by assumption) ?restb6
      case hyb6 => (intro wz hSw; (try dsimp only at hSw); go_simp <;> (try with_reducible rfl))
      try simp only [Act.put, List.setIfInBounds_toArray, List.set_cons_zero, List.set_cons_succ]
      refine wpAnyH_take (i := 7) (oi := { dst := Option.some 35, op := Go.Op.pick (Go.Operand.tmp 29) (Go.Operand.tmp 34) (Go.Operand.const (Go.Value.bool Bool.false)), type := 4, pos := "law.go:85", after := #[{ on := 1, ground := Go.Ground.data }, { on := 6, ground := Go.Ground.data }], guard := Option.none }) (v := ?vb7) rfl (by kernel_rfl) (by kernel_rfl) (by kernel_rfl) (fun _ _ _ h => h) (Or.inl ⟨by rfl, ?hyb7⟩) (by assumption) ?restb7
      case hyb7 => (intro wz hSw; (try dsimp only at hSw); go_simp <;> (try with_reducible rfl))
      try simp only [Act.put, List.setIfInBounds_toArray, List.set_cons_zero, List.set_cons_succ]
      refine wpAnyH_take (i := 8) (oi := { dst := Option.some 36, op := Go.Op.move (Go.Operand.tmp 35), type := 4, pos := "law.go:85", after := #[{ on := 7, ground := Go.Ground.data }, { on := 1, ground := Go.Ground.chain }], guard := Option.none }) (v := ?vb8) rfl (by kernel_rfl) (by kernel_rfl) (by kernel_rfl) (fun _ _ _ h => h) (Or.inl ⟨by rfl, ?hyb8⟩) (by assumption) ?restb8
      case hyb8 => (intro wz hSw; (try dsimp only at hSw); go_simp <;> (try with_reducible rfl))
      try simp only [Act.put, List.setIfInBounds_toArray, List.set_cons_zero, List.set_cons_succ]
      refine wpAnyH_take (i := 9) (oi := { dst := Option.some 37, op := Go.Op.fieldAddr 26 (Go.Operand.tmp 12) 0, type := 0, pos := "law.go:85", after := #[{ on := 8, ground := Go.Ground.guard }], guard := Option.some (8, Bool.true) }) (v := ?vb9) rfl (by kernel_rfl) (by kernel_rfl) (by kernel_rfl) (fun _ _ _ h => h) (Or.inl ⟨by rfl, ?hyb9⟩) (by assumption) ?restb9
      case hyb9 => (intro wz hSw; (try dsimp only at hSw); go_simp <;> (try with_reducible rfl))
      try simp only [Act.put, List.setIfInBounds_toArray, List.set_cons_zero, List.set_cons_succ]
      refine wpAnyH_take (i := 10) (oi := { dst := Option.some 38, op := Go.Op.load 3 (Go.Operand.tmp 37), type := 3, pos := "law.go:85", after := #[{ on := 9, ground := Go.Ground.data }, { on := 8, ground := Go.Ground.guard }], guard := Option.some (8, Bool.true) }) (v := ?vb10) rfl (by kernel_rfl) (by kernel_rfl) (by kernel_rfl) (fun _ _ _ h => h) (Or.inl ⟨by rfl, ?hyb10⟩) (by assumption) ?restb10
      case hyb10 => (intro wz hSw; (try dsimp only at hSw); go_simp <;> (try with_reducible rfl))
      try simp only [Act.put, List.setIfInBounds_toArray, List.set_cons_zero, List.set_cons_succ]
      refine wpAnyH_take (i := 11) (oi := { dst := Option.some 39, op := Go.Op.fieldAddr 26 (Go.Operand.tmp 5) 0, type := 0, pos := "law.go:85", after := #[{ on := 8, ground := Go.Ground.guard }], guard := Option.some (8, Bool.true) }) (v := ?vb11) rfl (by kernel_rfl) (by kernel_rfl) (by kernel_rfl) (fun _ _ _ h => h) (Or.inl ⟨by rfl, ?hyb11⟩) (by assumption) ?restb11
      case hyb11 => (intro wz hSw; (try dsimp only at hSw); go_simp <;> (try with_reducible rfl))
      try simp only [Act.put, List.setIfInBounds_toArray, List.set_cons_zero, List.set_cons_succ]
      refine wpAnyH_take (i := 12) (oi := { dst := Option.some 40, op := Go.Op.load 3 (Go.Operand.tmp 39), type := 3, pos := "law.go:85", after := #[{ on := 11, ground := Go.Ground.data }, { on := 8, ground := Go.Ground.guard }], guard := Option.some (8, Bool.true) }) (v := ?vb12) rfl (by kernel_rfl) (by kernel_rfl) (by kernel_rfl) (fun _ _ _ h => h) (Or.inl ⟨by rfl, ?hyb12⟩) (by assumption) ?restb12
      case hyb12 => (intro wz hSw; (try dsimp only at hSw); go_simp <;> (try with_reducible rfl))
      try simp only [Act.put, List.setIfInBounds_toArray, List.set_cons_zero, List.set_cons_succ]
      refine wpAnyH_take (i := 13) (oi := { dst := Option.some 41, op := Go.Op.fieldAddr 26 (Go.Operand.tmp 5) 3, type := 0, pos := "law.go:85", after := #[{ on := 8, ground := Go.Ground.guard }], guard := Option.some (8, Bool.true) }) (v := ?vb13) rfl (by kernel_rfl) (by kernel_rfl) (by kernel_rfl) (fun _ _ _ h => h) (Or.inl ⟨by rfl, ?hyb13⟩) (by assumption) ?restb13
      case hyb13 => (intro wz hSw; (try dsimp only at hSw); go_simp <;> (try with_reducible rfl))
      try simp only [Act.put, List.setIfInBounds_toArray, List.set_cons_zero, List.set_cons_succ]
      refine wpAnyH_take (i := 14) (oi := { dst := Option.some 42, op := Go.Op.load 3 (Go.Operand.tmp 41), type := 3, pos := "law.go:85", after := #[{ on := 13, ground := Go.Ground.data }, { on := 8, ground := Go.Ground.guard }], guard := Option.some (8, Bool.true) }) (v := ?vb14) rfl (by kernel_rfl) (by kernel_rfl) (by kernel_rfl) (fun _ _ _ h => h) (Or.inl ⟨by rfl, ?hyb14⟩) (by assumption) ?restb14
      case hyb14 => (intro wz hSw; (try dsimp only at hSw); go_simp <;> (try with_reducible rfl))
      try simp only [Act.put, List.setIfInBounds_toArray, List.set_cons_zero, List.set_cons_succ]
      refine wpAnyH_take (i := 15) (oi := { dst := Option.some 43, op := Go.Op.binOp Go.BinOp.add 3 (Go.Operand.tmp 40) (Go.Operand.tmp 42) 3, type := 3, pos := "law.go:85", after := #[{ on := 12, ground := Go.Ground.data }, { on := 14, ground := Go.Ground.data }, { on := 8, ground := Go.Ground.guard }], guard := Option.some (8, Bool.true) }) (v := ?vb15) rfl (by kernel_rfl) (by kernel_rfl) (by kernel_rfl) (fun _ _ _ h => h) (Or.inl ⟨by rfl, ?hyb15⟩) (by assumption) ?restb15
      case hyb15 => (intro wz hSw; (try dsimp only at hSw); go_simp <;> (try with_reducible rfl))
      try simp only [Act.put, List.setIfInBounds_toArray, List.set_cons_zero, List.set_cons_succ]
      refine wpAnyH_take (i := 16) (oi := { dst := Option.some 44, op := Go.Op.binOp Go.BinOp.leq 3 (Go.Operand.tmp 38) (Go.Operand.tmp 43) 3, type := 4, pos := "law.go:85", after := #[{ on := 10, ground := Go.Ground.data }, { on := 15, ground := Go.Ground.data }, { on := 8, ground := Go.Ground.guard }], guard := Option.some (8, Bool.true) }) (v := ?vb16) rfl (by kernel_rfl) (by kernel_rfl) (by kernel_rfl) (fun _ _ _ h => h) (Or.inl ⟨by rfl, ?hyb16⟩) (by assumption) ?restb16
      case hyb16 => (intro wz hSw; (try dsimp only at hSw); go_simp <;> (try with_reducible rfl))
      try simp only [Act.put, List.setIfInBounds_toArray, List.set_cons_zero, List.set_cons_succ]
      refine wpAnyH_take (i := 17) (oi := { dst := Option.some 45, op := Go.Op.pick (Go.Operand.tmp 36) (Go.Operand.tmp 44) (Go.Operand.const (Go.Value.bool Bool.false)), type := 4, pos := "law.go:85", after := #[{ on := 8, ground := Go.Ground.data }, { on := 16, ground := Go.Ground.data }], guard := Option.none }) (v := ?vb17) rfl (by kernel_rfl) (by kernel_rfl) (by kernel_rfl) (fun _ _ _ h => h) (Or.inl ⟨by rfl, ?hyb17⟩) (by assumption) ?restb17
      case hyb17 => (intro wz hSw; (try dsimp only at hSw); go_simp <;> (try with_reducible rfl))
      try simp only [Act.put, List.setIfInBounds_toArray, List.set_cons_zero, List.set_cons_succ]
      refine wpAnyH_take (i := 18) (oi := { dst := Option.some 46, op := Go.Op.move (Go.Operand.tmp 45), type := 4, pos := "law.go:85", after := #[{ on := 17, ground := Go.Ground.data }, { on := 8, ground := Go.Ground.chain }], guard := Option.none }) (v := ?vb18) rfl (by kernel_rfl) (by kernel_rfl) (by kernel_rfl) (fun _ _ _ h => h) (Or.inl ⟨by rfl, ?hyb18⟩) (by assumption) ?restb18
      case hyb18 => (intro wz hSw; (try dsimp only at hSw); go_simp <;> (try with_reducible rfl))
      try simp only [Act.put, List.setIfInBounds_toArray, List.set_cons_zero, List.set_cons_succ]
      refine wpAnyH_take (i := 19) (oi := { dst := Option.some 47, op := Go.Op.fieldAddr 26 (Go.Operand.tmp 13) 0, type := 0, pos := "law.go:85", after := #[{ on := 18, ground := Go.Ground.guard }], guard := Option.some (18, Bool.true) }) (v := ?vb19) rfl (by kernel_rfl) (by kernel_rfl) (by kernel_rfl) (fun _ _ _ h => h) (Or.inl ⟨by rfl, ?hyb19⟩) (by assumption) ?restb19
      case hyb19 => (intro wz hSw; (try dsimp only at hSw); go_simp <;> (try with_reducible rfl))
      try simp only [Act.put, List.setIfInBounds_toArray, List.set_cons_zero, List.set_cons_succ]
      refine wpAnyH_take (i := 20) (oi := { dst := Option.some 48, op := Go.Op.load 3 (Go.Operand.tmp 47), type := 3, pos := "law.go:85", after := #[{ on := 19, ground := Go.Ground.data }, { on := 18, ground := Go.Ground.guard }], guard := Option.some (18, Bool.true) }) (v := ?vb20) rfl (by kernel_rfl) (by kernel_rfl) (by kernel_rfl) (fun _ _ _ h => h) (Or.inl ⟨by rfl, ?hyb20⟩) (by assumption) ?restb20
      case hyb20 => (intro wz hSw; (try dsimp only at hSw); go_simp <;> (try with_reducible rfl))
      try simp only [Act.put, List.setIfInBounds_toArray, List.set_cons_zero, List.set_cons_succ]
      refine wpAnyH_take (i := 21) (oi := { dst := Option.some 49, op := Go.Op.fieldAddr 26 (Go.Operand.tmp 5) 0, type := 0, pos := "law.go:85", after := #[{ on := 18, ground := Go.Ground.guard }], guard := Option.some (18, Bool.true) }) (v := ?vb21) rfl (by kernel_rfl) (by kernel_rfl) (by kernel_rfl) (fun _ _ _ h => h) (Or.inl ⟨by rfl, ?hyb21⟩) (by assumption) ?restb21
      case hyb21 => (intro wz hSw; (try dsimp only at hSw); go_simp <;> (try with_reducible rfl))
      try simp only [Act.put, List.setIfInBounds_toArray, List.set_cons_zero, List.set_cons_succ]
      refine wpAnyH_take (i := 22) (oi := { dst := Option.some 50, op := Go.Op.load 3 (Go.Operand.tmp 49), type := 3, pos := "law.go:85", after := #[{ on := 21, ground := Go.Ground.data }, { on := 18, ground := Go.Ground.guard }], guard := Option.some (18, Bool.true) }) (v := ?vb22) rfl (by kernel_rfl) (by kernel_rfl) (by kernel_rfl) (fun _ _ _ h => h) (Or.inl ⟨by rfl, ?hyb22⟩) (by assumption) ?restb22
      case hyb22 => (intro wz hSw; (try dsimp only at hSw); go_simp <;> (try with_reducible rfl))
      try simp only [Act.put, List.setIfInBounds_toArray, List.set_cons_zero, List.set_cons_succ]
      refine wpAnyH_take (i := 23) (oi := { dst := Option.some 51, op := Go.Op.binOp Go.BinOp.leq 3 (Go.Operand.tmp 48) (Go.Operand.tmp 50) 3, type := 4, pos := "law.go:85", after := #[{ on := 20, ground := Go.Ground.data }, { on := 22, ground := Go.Ground.data }, { on := 18, ground := Go.Ground.guard }], guard := Option.some (18, Bool.true) }) (v := ?vb23) rfl (by kernel_rfl) (by kernel_rfl) (by kernel_rfl) (fun _ _ _ h => h) (Or.inl ⟨by rfl, ?hyb23⟩) (by assumption) ?restb23
      case hyb23 => (intro wz hSw; (try dsimp only at hSw); go_simp <;> (try with_reducible rfl))
      try simp only [Act.put, List.setIfInBounds_toArray, List.set_cons_zero, List.set_cons_succ]
      refine wpAnyH_take (i := 24) (oi := { dst := Option.some 52, op := Go.Op.move (Go.Operand.tmp 51), type := 4, pos := "law.go:85", after := #[{ on := 23, ground := Go.Ground.data }, { on := 18, ground := Go.Ground.chain }, { on := 18, ground := Go.Ground.guard }], guard := Option.some (18, Bool.true) }) (v := ?vb24) rfl (by kernel_rfl) (by kernel_rfl) (by kernel_rfl) (fun _ _ _ h => h) (Or.inl ⟨by rfl, ?hyb24⟩) (by assumption) ?restb24
      case hyb24 => (intro wz hSw; (try dsimp only at hSw); go_simp <;> (try with_reducible rfl))
      try simp only [Act.put, List.setIfInBounds_toArray, List.set_cons_zero, List.set_cons_succ]
      refine wpAnyH_take (i := 25) (oi := { dst := Option.some 53, op := Go.Op.fieldAddr 26 (Go.Operand.tmp 13) 0, type := 0, pos := "law.go:85", after := #[{ on := 24, ground := Go.Ground.guard }], guard := Option.some (24, Bool.false) }) (v := ?vb25) rfl (by kernel_rfl) (by kernel_rfl) (by kernel_rfl) (fun _ _ _ h => h) (Or.inl ⟨by rfl, ?hyb25⟩) (by assumption) ?restb25
      case hyb25 => (intro wz hSw; (try dsimp only at hSw); go_simp <;> (try with_reducible rfl))
      try simp only [Act.put, List.setIfInBounds_toArray, List.set_cons_zero, List.set_cons_succ]
      refine wpAnyH_take (i := 26) (oi := { dst := Option.some 54, op := Go.Op.load 3 (Go.Operand.tmp 53), type := 3, pos := "law.go:85", after := #[{ on := 25, ground := Go.Ground.data }, { on := 24, ground := Go.Ground.guard }], guard := Option.some (24, Bool.false) }) (v := ?vb26) rfl (by kernel_rfl) (by kernel_rfl) (by kernel_rfl) (fun _ _ _ h => h) (Or.inl ⟨by rfl, ?hyb26⟩) (by assumption) ?restb26
      case hyb26 => (intro wz hSw; (try dsimp only at hSw); go_simp <;> (try with_reducible rfl))
      try simp only [Act.put, List.setIfInBounds_toArray, List.set_cons_zero, List.set_cons_succ]
      refine wpAnyH_take (i := 27) (oi := { dst := Option.some 55, op := Go.Op.fieldAddr 26 (Go.Operand.tmp 5) 3, type := 0, pos := "law.go:85", after := #[{ on := 24, ground := Go.Ground.guard }], guard := Option.some (24, Bool.false) }) (v := ?vb27) rfl (by kernel_rfl) (by kernel_rfl) (by kernel_rfl) (fun _ _ _ h => h) (Or.inl ⟨by rfl, ?hyb27⟩) (by assumption) ?restb27
      case hyb27 => (intro wz hSw; (try dsimp only at hSw); go_simp <;> (try with_reducible rfl))
      try simp only [Act.put, List.setIfInBounds_toArray, List.set_cons_zero, List.set_cons_succ]
      refine wpAnyH_take (i := 28) (oi := { dst := Option.some 56, op := Go.Op.load 3 (Go.Operand.tmp 55), type := 3, pos := "law.go:85", after := #[{ on := 27, ground := Go.Ground.data }, { on := 24, ground := Go.Ground.guard }], guard := Option.some (24, Bool.false) }) (v := ?vb28) rfl (by kernel_rfl) (by kernel_rfl) (by kernel_rfl) (fun _ _ _ h => h) (Or.inl ⟨by rfl, ?hyb28⟩) (by assumption) ?restb28
      case hyb28 => (intro wz hSw; (try dsimp only at hSw); go_simp <;> (try with_reducible rfl))
      try simp only [Act.put, List.setIfInBounds_toArray, List.set_cons_zero, List.set_cons_succ]
      refine wpAnyH_take (i := 29) (oi := { dst := Option.some 57, op := Go.Op.binOp Go.BinOp.mul 3 (Go.Operand.const (Go.Value.int Go.IntKind.i64 4)) (Go.Operand.tmp 56) 3, type := 3, pos := "law.go:85", after := #[{ on := 28, ground := Go.Ground.data }, { on := 24, ground := Go.Ground.guard }], guard := Option.some (24, Bool.false) }) (v := ?vb29) rfl (by kernel_rfl) (by kernel_rfl) (by kernel_rfl) (fun _ _ _ h => h) (Or.inl ⟨by rfl, ?hyb29⟩) (by assumption) ?restb29
      case hyb29 => (intro wz hSw; (try dsimp only at hSw); go_simp <;> (try with_reducible rfl))
      try simp only [Act.put, List.setIfInBounds_toArray, List.set_cons_zero, List.set_cons_succ]
      refine wpAnyH_take (i := 30) (oi := { dst := Option.some 58, op := Go.Op.binOp Go.BinOp.leq 3 (Go.Operand.tmp 54) (Go.Operand.tmp 57) 3, type := 4, pos := "law.go:85", after := #[{ on := 26, ground := Go.Ground.data }, { on := 29, ground := Go.Ground.data }, { on := 24, ground := Go.Ground.guard }], guard := Option.some (24, Bool.false) }) (v := ?vb30) rfl (by kernel_rfl) (by kernel_rfl) (by kernel_rfl) (fun _ _ _ h => h) (Or.inl ⟨by rfl, ?hyb30⟩) (by assumption) ?restb30
      case hyb30 => (intro wz hSw; (try dsimp only at hSw); go_simp <;> (try with_reducible rfl))
      try simp only [Act.put, List.setIfInBounds_toArray, List.set_cons_zero, List.set_cons_succ]
      refine wpAnyH_take (i := 31) (oi := { dst := Option.some 59, op := Go.Op.pick (Go.Operand.tmp 52) (Go.Operand.const (Go.Value.bool Bool.true)) (Go.Operand.tmp 58), type := 4, pos := "law.go:85", after := #[{ on := 24, ground := Go.Ground.data }, { on := 30, ground := Go.Ground.data }, { on := 18, ground := Go.Ground.guard }], guard := Option.some (18, Bool.true) }) (v := ?vb31) rfl (by kernel_rfl) (by kernel_rfl) (by kernel_rfl) (fun _ _ _ h => h) (Or.inl ⟨by rfl, ?hyb31⟩) (by assumption) ?restb31
      case hyb31 => (intro wz hSw; (try dsimp only at hSw); go_simp <;> (try with_reducible rfl))
      try simp only [Act.put, List.setIfInBounds_toArray, List.set_cons_zero, List.set_cons_succ]
      refine wpAnyH_take (i := 32) (oi := { dst := Option.some 60, op := Go.Op.pick (Go.Operand.tmp 46) (Go.Operand.tmp 59) (Go.Operand.const (Go.Value.bool Bool.false)), type := 4, pos := "law.go:85", after := #[{ on := 18, ground := Go.Ground.data }, { on := 31, ground := Go.Ground.data }], guard := Option.none }) (v := ?vb32) rfl (by kernel_rfl) (by kernel_rfl) (by kernel_rfl) (fun _ _ _ h => h) (Or.inl ⟨by rfl, ?hyb32⟩) (by assumption) ?restb32
      case hyb32 => (intro wz hSw; (try dsimp only at hSw); go_simp <;> (try with_reducible rfl))
      try simp only [Act.put, List.setIfInBounds_toArray, List.set_cons_zero, List.set_cons_succ]
      refine wpAnyH_take (i := 33) (oi := { dst := Option.some 61, op := Go.Op.move (Go.Operand.tmp 60), type := 4, pos := "law.go:85", after := #[{ on := 32, ground := Go.Ground.data }, { on := 24, ground := Go.Ground.chain }], guard := Option.none }) (v := ?vb33) rfl (by kernel_rfl) (by kernel_rfl) (by kernel_rfl) (fun _ _ _ h => h) (Or.inl ⟨by rfl, ?hyb33⟩) (by assumption) ?restb33
      case hyb33 => (intro wz hSw; (try dsimp only at hSw); go_simp <;> (try with_reducible rfl))
      try simp only [Act.put, List.setIfInBounds_toArray, List.set_cons_zero, List.set_cons_succ]
      refine wpAnyH_take (i := 34) (oi := { dst := Option.some 62, op := Go.Op.load 26 (Go.Operand.tmp 13), type := 26, pos := "law.go:85", after := #[{ on := 33, ground := Go.Ground.guard }], guard := Option.some (33, Bool.true) }) (v := ?vb34) rfl (by kernel_rfl) (by kernel_rfl) (by kernel_rfl) (fun _ _ _ h => h) (Or.inl ⟨by rfl, ?hyb34⟩) (by assumption) ?restb34
      case hyb34 => (intro wz hSw; (try dsimp only at hSw); go_simp <;> (try with_reducible rfl))
      try simp only [Act.put, List.setIfInBounds_toArray, List.set_cons_zero, List.set_cons_succ]
      refine wpAnyH_take (i := 35) (oi := { dst := Option.some 63, op := Go.Op.move (Go.Operand.tmp 3), type := 24, pos := "law.go:85", after := #[{ on := 33, ground := Go.Ground.guard }], guard := Option.some (33, Bool.true) }) (v := ?vb35) rfl (by kernel_rfl) (by kernel_rfl) (by kernel_rfl) (fun _ _ _ h => h) (Or.inl ⟨by rfl, ?hyb35⟩) (by assumption) ?restb35
      case hyb35 => (intro wz hSw; (try dsimp only at hSw); go_simp <;> (try with_reducible rfl))
      try simp only [Act.put, List.setIfInBounds_toArray, List.set_cons_zero, List.set_cons_succ]
      refine wpAnyH_take (i := 37) (oi := { dst := Option.some 65, op := Go.Op.load 26 (Go.Operand.tmp 13), type := 26, pos := "law.go:85", after := #[{ on := 33, ground := Go.Ground.guard }], guard := Option.some (33, Bool.true) }) (v := ?vb37) rfl (by kernel_rfl) (by kernel_rfl) (by kernel_rfl) (fun _ _ _ h => h) (Or.inl ⟨by rfl, ?hyb37⟩) (by assumption) ?restb37
      case hyb37 => (intro wz hSw; (try dsimp only at hSw); go_simp <;> (try with_reducible rfl))
      try simp only [Act.put, List.setIfInBounds_toArray, List.set_cons_zero, List.set_cons_succ]
      refine wpAnyH_ready (rs := [36]) (by kernel_rfl) (by simp) (AllReadyH.cons (o := { dst := Option.some 64, op := Go.Op.call { callee := Go.Callee.value (Go.Operand.func 10), args := #[Go.Operand.tmp 62, Go.Operand.tmp 63], argTypes := #[26, 24] }, type := 26, pos := "law.go:85", after := #[{ on := 34, ground := Go.Ground.data }, { on := 35, ground := Go.Ground.data }, { on := 33, ground := Go.Ground.chain }, { on := 33, ground := Go.Ground.guard }], guard := Option.some (33, Bool.true) }) rfl (fun K hK => ?_) AllReadyH.nil)
      go_simp
      go_at_call 10
      refine (KM'.out _).mono ?_
      rintro e x36 ⟨rfl, hb36⟩
      replace H := keep (H.out.step hb36)
      clear hb36
      (try go_wp2_with fail)
      refine hK.out _ _ H.out.cells (fun hHeld => ?_)
      clear hK K
      try simp only [Act.put, List.setIfInBounds_toArray, List.set_cons_zero, List.set_cons_succ]
      refine wpAnyH_ready (rs := [38]) (by kernel_rfl) (by simp) (AllReadyH.cons (o := { dst := Option.some 66, op := Go.Op.call { callee := Go.Callee.value (Go.Operand.func 13), args := #[Go.Operand.tmp 65], argTypes := #[26] }, type := 34, pos := "law.go:85", after := #[{ on := 37, ground := Go.Ground.data }, { on := 36, ground := Go.Ground.chain }, { on := 33, ground := Go.Ground.guard }], guard := Option.some (33, Bool.true) }) rfl (fun K hK => ?_) AllReadyH.nil)
      go_simp
      go_at_call 13
      refine (KH.out _).mono ?_
      rintro e x38 ⟨rfl, hb38⟩
      replace H := keep (H.out.step hb38)
      clear hb38
      (try go_wp2_with fail)
      refine hK.out _ _ H.out.cells (fun hHeld => ?_)
      clear hK K
      try simp only [Act.put, List.setIfInBounds_toArray, List.set_cons_zero, List.set_cons_succ]
      refine wpAnyH_ready (rs := [39]) (by kernel_rfl) (by simp) (AllReadyH.cons (o := { dst := Option.some 67, op := Go.Op.call { callee := Go.Callee.value (Go.Operand.func 15), args := #[Go.Operand.tmp 64, Go.Operand.tmp 66], argTypes := #[26, 34] }, type := 4, pos := "law.go:85", after := #[{ on := 36, ground := Go.Ground.data }, { on := 38, ground := Go.Ground.data }, { on := 38, ground := Go.Ground.chain }, { on := 33, ground := Go.Ground.guard }], guard := Option.some (33, Bool.true) }) rfl (fun K hK => ?_) AllReadyH.nil)
      go_simp
      go_at_call 15
      refine (KE.out _).mono ?_
      rintro e x39 ⟨rfl, hb39⟩
      replace H := keep (H.out.step hb39)
      clear hb39
      (try go_wp2_with fail)
      refine hK.out _ _ H.out.cells (fun hHeld => ?_)
      clear hK K
      try simp only [Act.put, List.setIfInBounds_toArray, List.set_cons_zero, List.set_cons_succ]
      refine wpAnyH_take (i := 40) (oi := { dst := Option.some 68, op := Go.Op.pick (Go.Operand.tmp 61) (Go.Operand.tmp 67) (Go.Operand.const (Go.Value.bool Bool.false)), type := 4, pos := "law.go:85", after := #[{ on := 33, ground := Go.Ground.data }, { on := 39, ground := Go.Ground.data }], guard := Option.none }) (v := ?vb40) rfl (by kernel_rfl) (by kernel_rfl) (by kernel_rfl) (fun _ _ _ h => h) (Or.inl ⟨by rfl, ?hyb40⟩) (by assumption) ?restb40
      case hyb40 => (intro wz hSw; (try dsimp only at hSw); go_simp <;> (try with_reducible rfl))
      try simp only [Act.put, List.setIfInBounds_toArray, List.set_cons_zero, List.set_cons_succ]
      refine wpAnyH_take (i := 41) (oi := { dst := Option.some 69, op := Go.Op.move (Go.Operand.tmp 68), type := 4, pos := "law.go:85", after := #[{ on := 40, ground := Go.Ground.data }, { on := 39, ground := Go.Ground.chain }], guard := Option.none }) (v := ?vb41) rfl (by kernel_rfl) (by kernel_rfl) (by kernel_rfl) (fun _ _ _ h => h) (Or.inl ⟨by rfl, ?hyb41⟩) (by assumption) ?restb41
      case hyb41 => (intro wz hSw; (try dsimp only at hSw); go_simp <;> (try with_reducible rfl))
      try simp only [Act.put, List.setIfInBounds_toArray, List.set_cons_zero, List.set_cons_succ]
      refine wpAnyH_take (i := 42) (oi := { dst := Option.some 70, op := Go.Op.fieldAddr 26 (Go.Operand.tmp 13) 4, type := 0, pos := "law.go:85", after := #[{ on := 41, ground := Go.Ground.guard }], guard := Option.some (41, Bool.true) }) (v := ?vb42) rfl (by kernel_rfl) (by kernel_rfl) (by kernel_rfl) (fun _ _ _ h => h) (Or.inl ⟨by rfl, ?hyb42⟩) (by assumption) ?restb42
      case hyb42 => (intro wz hSw; (try dsimp only at hSw); go_simp <;> (try with_reducible rfl))
      try simp only [Act.put, List.setIfInBounds_toArray, List.set_cons_zero, List.set_cons_succ]
      refine wpAnyH_take (i := 43) (oi := { dst := Option.some 71, op := Go.Op.load 4 (Go.Operand.tmp 70), type := 4, pos := "law.go:85", after := #[{ on := 42, ground := Go.Ground.data }, { on := 41, ground := Go.Ground.guard }], guard := Option.some (41, Bool.true) }) (v := ?vb43) rfl (by kernel_rfl) (by kernel_rfl) (by kernel_rfl) (fun _ _ _ h => h) (Or.inl ⟨by rfl, ?hyb43⟩) (by assumption) ?restb43
      case hyb43 => (intro wz hSw; (try dsimp only at hSw); go_simp <;> (try with_reducible rfl))
      try simp only [Act.put, List.setIfInBounds_toArray, List.set_cons_zero, List.set_cons_succ]
      refine wpAnyH_take (i := 44) (oi := { dst := Option.some 72, op := Go.Op.pick (Go.Operand.tmp 69) (Go.Operand.tmp 71) (Go.Operand.const (Go.Value.bool Bool.false)), type := 4, pos := "law.go:85", after := #[{ on := 41, ground := Go.Ground.data }, { on := 43, ground := Go.Ground.data }], guard := Option.none }) (v := ?vb44) rfl (by kernel_rfl) (by kernel_rfl) (by kernel_rfl) (fun _ _ _ h => h) (Or.inl ⟨by rfl, ?hyb44⟩) (by assumption) ?restb44
      case hyb44 => (intro wz hSw; (try dsimp only at hSw); go_simp <;> (try with_reducible rfl))
      try simp only [Act.put, List.setIfInBounds_toArray, List.set_cons_zero, List.set_cons_succ]
      refine wpAnyH_take (i := 45) (oi := { dst := Option.some 73, op := Go.Op.move (Go.Operand.tmp 72), type := 4, pos := "law.go:85", after := #[{ on := 44, ground := Go.Ground.data }, { on := 41, ground := Go.Ground.chain }], guard := Option.none }) (v := ?vb45) rfl (by kernel_rfl) (by kernel_rfl) (by kernel_rfl) (fun _ _ _ h => h) (Or.inl ⟨by rfl, ?hyb45⟩) (by assumption) ?restb45
      case hyb45 => (intro wz hSw; (try dsimp only at hSw); go_simp <;> (try with_reducible rfl))
      try simp only [Act.put, List.setIfInBounds_toArray, List.set_cons_zero, List.set_cons_succ]
      refine wpAnyH_take (i := 46) (oi := { dst := Option.some 74, op := Go.Op.load 26 (Go.Operand.tmp 5), type := 26, pos := "law.go:85", after := #[{ on := 45, ground := Go.Ground.guard }], guard := Option.some (45, Bool.true) }) (v := ?vb46) rfl (by kernel_rfl) (by kernel_rfl) (by kernel_rfl) (fun _ _ _ h => h) (Or.inl ⟨by rfl, ?hyb46⟩) (by assumption) ?restb46
      case hyb46 => (intro wz hSw; (try dsimp only at hSw); go_simp <;> (try with_reducible rfl))
      try simp only [Act.put, List.setIfInBounds_toArray, List.set_cons_zero, List.set_cons_succ]
      refine wpAnyH_take (i := 49) (oi := { dst := Option.some 77, op := Go.Op.fieldAddr 26 (Go.Operand.tmp 5) 3, type := 0, pos := "law.go:85", after := #[{ on := 45, ground := Go.Ground.guard }], guard := Option.some (45, Bool.true) }) (v := ?vb49) rfl (by kernel_rfl) (by kernel_rfl) (by kernel_rfl) (fun _ _ _ h => h) (Or.inl ⟨by rfl, ?hyb49⟩) (by assumption) ?restb49
      case hyb49 => (intro wz hSw; (try dsimp only at hSw); go_simp <;> (try with_reducible rfl))
      try simp only [Act.put, List.setIfInBounds_toArray, List.set_cons_zero, List.set_cons_succ]
      refine wpAnyH_take (i := 50) (oi := { dst := Option.some 78, op := Go.Op.load 3 (Go.Operand.tmp 77), type := 3, pos := "law.go:85", after := #[{ on := 49, ground := Go.Ground.data }, { on := 45, ground := Go.Ground.guard }], guard := Option.some (45, Bool.true) }) (v := ?vb50) rfl (by kernel_rfl) (by kernel_rfl) (by kernel_rfl) (fun _ _ _ h => h) (Or.inl ⟨by rfl, ?hyb50⟩) (by assumption) ?restb50
      case hyb50 => (intro wz hSw; (try dsimp only at hSw); go_simp <;> (try with_reducible rfl))
      try simp only [Act.put, List.setIfInBounds_toArray, List.set_cons_zero, List.set_cons_succ]
      refine wpAnyH_ready (rs := [47]) (by kernel_rfl) (by simp) (AllReadyH.cons (o := { dst := Option.some 75, op := Go.Op.call { callee := Go.Callee.value (Go.Operand.func 11), args := #[Go.Operand.tmp 74], argTypes := #[26] }, type := 26, pos := "law.go:85", after := #[{ on := 46, ground := Go.Ground.data }, { on := 45, ground := Go.Ground.chain }, { on := 45, ground := Go.Ground.guard }], guard := Option.some (45, Bool.true) }) rfl (fun K hK => ?_) AllReadyH.nil)
      go_simp
      go_at_call 11
      refine (KT'.out _).mono ?_
      rintro e x47 ⟨rfl, hb47⟩
      replace H := keep (H.out.step hb47)
      clear hb47
      (try go_wp2_with fail)
      refine hK.out _ _ H.out.cells (fun hHeld => ?_)
      clear hK K
      try simp only [Act.put, List.setIfInBounds_toArray, List.set_cons_zero, List.set_cons_succ]
      refine wpAnyH_take (i := 48) (oi := { dst := Option.some 76, op := Go.Op.field 26 (Go.Operand.tmp 75) 0, type := 3, pos := "law.go:85", after := #[{ on := 47, ground := Go.Ground.data }, { on := 45, ground := Go.Ground.guard }], guard := Option.some (45, Bool.true) }) (v := ?vb48) rfl (by kernel_rfl) (by kernel_rfl) (by kernel_rfl) (fun _ _ _ h => h) (Or.inl ⟨by rfl, ?hyb48⟩) (by assumption) ?restb48
      case hyb48 => (intro wz hSw; (try dsimp only at hSw); go_simp <;> (try with_reducible rfl))
      try simp only [Act.put, List.setIfInBounds_toArray, List.set_cons_zero, List.set_cons_succ]
      refine wpAnyH_take (i := 51) (oi := { dst := Option.some 79, op := Go.Op.binOp Go.BinOp.eql 3 (Go.Operand.tmp 76) (Go.Operand.tmp 78) 3, type := 4, pos := "law.go:85", after := #[{ on := 48, ground := Go.Ground.data }, { on := 50, ground := Go.Ground.data }, { on := 45, ground := Go.Ground.guard }], guard := Option.some (45, Bool.true) }) (v := ?vb51) rfl (by kernel_rfl) (by kernel_rfl) (by kernel_rfl) (fun _ _ _ h => h) (Or.inl ⟨by rfl, ?hyb51⟩) (by assumption) ?restb51
      case hyb51 => (intro wz hSw; (try dsimp only at hSw); go_simp <;> (try with_reducible rfl))
      try simp only [Act.put, List.setIfInBounds_toArray, List.set_cons_zero, List.set_cons_succ]
      refine wpAnyH_take (i := 52) (oi := { dst := Option.some 80, op := Go.Op.pick (Go.Operand.tmp 73) (Go.Operand.tmp 79) (Go.Operand.const (Go.Value.bool Bool.false)), type := 4, pos := "law.go:85", after := #[{ on := 45, ground := Go.Ground.data }, { on := 51, ground := Go.Ground.data }], guard := Option.none }) (v := ?vb52) rfl (by kernel_rfl) (by kernel_rfl) (by kernel_rfl) (fun _ _ _ h => h) (Or.inl ⟨by rfl, ?hyb52⟩) (by assumption) ?restb52
      case hyb52 => (intro wz hSw; (try dsimp only at hSw); go_simp <;> (try with_reducible rfl))
      try simp only [Act.put, List.setIfInBounds_toArray, List.set_cons_zero, List.set_cons_succ]
      refine wpAnyH_take (i := 53) (oi := { dst := Option.some 10, op := Go.Op.assign (Go.Operand.tmp 80), type := 4, pos := "law.go:85", after := #[{ on := 52, ground := Go.Ground.data }, { on := 47, ground := Go.Ground.chain }, { on := 0, ground := Go.Ground.phase }, { on := 1, ground := Go.Ground.phase }, { on := 2, ground := Go.Ground.phase }, { on := 3, ground := Go.Ground.phase }, { on := 4, ground := Go.Ground.phase }, { on := 5, ground := Go.Ground.phase }, { on := 6, ground := Go.Ground.phase }, { on := 7, ground := Go.Ground.phase }, { on := 8, ground := Go.Ground.phase }, { on := 9, ground := Go.Ground.phase }, { on := 10, ground := Go.Ground.phase }, { on := 11, ground := Go.Ground.phase }, { on := 12, ground := Go.Ground.phase }, { on := 13, ground := Go.Ground.phase }, { on := 14, ground := Go.Ground.phase }, { on := 15, ground := Go.Ground.phase }, { on := 16, ground := Go.Ground.phase }, { on := 17, ground := Go.Ground.phase }, { on := 18, ground := Go.Ground.phase }, { on := 19, ground := Go.Ground.phase }, { on := 20, ground := Go.Ground.phase }, { on := 21, ground := Go.Ground.phase }, { on := 22, ground := Go.Ground.phase }, { on := 23, ground := Go.Ground.phase }, { on := 24, ground := Go.Ground.phase }, { on := 25, ground := Go.Ground.phase }, { on := 26, ground := Go.Ground.phase }, { on := 27, ground := Go.Ground.phase }, { on := 28, ground := Go.Ground.phase }, { on := 29, ground := Go.Ground.phase }, { on := 30, ground := Go.Ground.phase }, { on := 31, ground := Go.Ground.phase }, { on := 32, ground := Go.Ground.phase }, { on := 33, ground := Go.Ground.phase }, { on := 34, ground := Go.Ground.phase }, { on := 35, ground := Go.Ground.phase }, { on := 36, ground := Go.Ground.phase }, { on := 37, ground := Go.Ground.phase }, { on := 38, ground := Go.Ground.phase }, { on := 39, ground := Go.Ground.phase }, { on := 40, ground := Go.Ground.phase }, { on := 41, ground := Go.Ground.phase }, { on := 42, ground := Go.Ground.phase }, { on := 43, ground := Go.Ground.phase }, { on := 44, ground := Go.Ground.phase }, { on := 45, ground := Go.Ground.phase }, { on := 46, ground := Go.Ground.phase }, { on := 47, ground := Go.Ground.phase }, { on := 48, ground := Go.Ground.phase }, { on := 49, ground := Go.Ground.phase }, { on := 50, ground := Go.Ground.phase }, { on := 51, ground := Go.Ground.phase }, { on := 52, ground := Go.Ground.phase }], guard := Option.none }) (v := ?vb53) rfl (by kernel_rfl) (by kernel_rfl) (by kernel_rfl) (fun _ _ _ h => h) (Or.inl ⟨by rfl, ?hyb53⟩) (by assumption) ?restb53
      case hyb53 => (intro wz hSw; (try dsimp only at hSw); go_simp <;> (try with_reducible rfl))
      try simp only [Act.put, List.setIfInBounds_toArray, List.set_cons_zero, List.set_cons_succ]
      refine wpAnyH_done (by kernel_rfl) ?_ _
      go_wp2_with fail
      go_ret
      exact ⟨rfl, H.out.below⟩
  · rw [show s.may = false by simpa using hb] at K3
    obtain ⟨cw, th, pa, mt, re, ex⟩ := s
    clear hb
    dsimp only [WS.cells] at R0 L0 K2 K3 ⊢
    replace R0 := keep R0
    replace L0 := keep L0
    replace K2 := keep K2
    replace K3 := keep K3
    go_enter Try.func5, Try.ntmps5
    go_wp2_with (first
      | (go_at_call 7; refine (K0.out _).mono ?_; rintro e w1 ⟨rfl, hb1⟩
         have R1 := R0.out.step hb1
         obtain ⟨⟨d0, d1, d2, d3, d4, d5⟩, _⟩ := R1.all
         dsimp only at d0 d1 d2 d3 d4 d5
         have L1 := keep (up L0.out hb1)
         replace R1 := keep R1
         clear hb1 R0 L0 K0)
      | (go_at_call 13; refine (K2.out _).mono ?_; rintro e w2 ⟨rfl, hb2⟩
         have L2 := keep (up L1.out hb2)
         clear hb2 R1 L1 K2)
      | (go_at_call 12; refine (K3.out _).mono ?_; rintro e w3 ⟨rfl, hb3⟩
         have L3 := keep (up L2.out hb3)
         clear hb3 L2 K3))
    go_ret
    exact ⟨rfl, L3.out⟩
end Go.Proofs.Ytjogpkkokblmoaa
