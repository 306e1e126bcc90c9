/- The walk of the law WindowStays. -/
import Derived.Test.YtjogpkkokblmoaaWi6
import Derived.Test.YtjogpkkokblmoaaWOps
namespace Go.Proofs.Ytjogpkkokblmoaa
open Go.RowKit
set_option linter.unusedVariables false

/-- The state that the law keeps: it may be, and its packets' size is k. -/
def Now (w : World) (g : Nat) (k : Int) (s : WS) (W : World) : Prop := WB 26 W g s ∧ s.may = true ∧ s.mt = k ∧ Below w.heap.size w W
theorem cell6 {W : World} {k : Nat} {s : WS} {p : Addr} (h : p.block ≠ k) : (lay6 W k s).cell? p = W.cell? p := by
  have e : (lay6 W k s).heap[p.block]? = W.heap[p.block]? := by
    unfold lay6
    rw [heap_setCell_other _ ⟨k, 5, none⟩ _ _ h, heap_setCell_other _ ⟨k, 4, none⟩ _ _ h, heap_setCell_other _ ⟨k, 3, none⟩ _ _ h, heap_setCell_other _ ⟨k, 2, none⟩ _ _ h, heap_setCell_other _ ⟨k, 1, none⟩ _ _ h, heap_setCell_other _ ⟨k, 0, none⟩ _ _ h]
  unfold World.cell?
  rw [e]
set_option maxHeartbeats 4000000 in
theorem windowStays_walk (m : Int) (A : Option Addr) (n c : Nat) (_u : Unit) (w : World) (_ : (Lit.int .i64 m).wf = true) (hz : Steps w A n) :
    Calls Try.prog 3 #[.int .i64 m, .slice A n c] w fun e w' => e = .returned (.bool true) ∧ Below w.heap.size w w' := by
  have K0 := keep (fun w => awake_any w)
  by_cases hn : n ≤ 2000
  · have hn' : (n : Int) ≤ 2000 := by omega
    have HZ := keep hz
    clear hz
    have hk := mtu_in m
    obtain ⟨k, hk1⟩ : ∃ k, mtuOf m = k := ⟨_, rfl⟩
    have hs : WS.start m = ⟨3 * k, 1073741824, 0, k, false, 0⟩ := by rw [← hk1]; rfl
    rw [hk1] at hk
    have hmay : WS.may ⟨3 * k, 1073741824, 0, k, false, 0⟩ = true := by rw [← hs]; exact may_start m
    have K1 := keep (fun w => Start_at hs w)
    have HM := keep hmay
    clear hs hmay hk1
    go_enter Try.func3, Try.ntmps3
    go_wp2_with (first
      | (go_at_call 7; refine (K0.out _).mono ?_; rintro e w1 ⟨rfl, hb1⟩; replace hb1 := keep hb1)
      | (go_at_call 8; refine (K1.out _).mono ?_; rintro e w2 ⟨rfl, hb2⟩
         have hB := up hb1.out hb2
         have T2 := WB.new 26 w2 ⟨3 * k, 1073741824, 0, k, false, 0⟩
         obtain ⟨⟨d0, d1, d2, d3, d4, d5⟩, _⟩ := T2.all
         dsimp only at d0 d1 d2 d3 d4 d5
         have N0 := keep (show Now w w2.heap.size k ⟨3 * k, 1073741824, 0, k, false, 0⟩ (w2.alloc (.cells (WS.cells ⟨3 * k, 1073741824, 0, k, false, 0⟩) 26)) from ⟨T2, HM.out, rfl, hB.alloc hB.size _⟩)
         have HG := keep (hB.size)
         clear hb2 hB hb1 T2))
    go_loopw [8] (fun vi wr => ∃ (j : Nat) (s : WS), vi = .int .i64 j ∧ j ≤ n ∧ Hid (Now w w2.heap.size k s wr)) (fun vi _ => n - (intOf vi).toNat)
    case atStart => exact ⟨0, _, rfl, Nat.zero_le _, N0⟩
    case round =>
      obtain ⟨j, ⟨cw, th, pa, mt, re, ex⟩, rfl, hj, HN⟩ := hrel
      clear N0 d0 d1 d2 d3 d4 d5
      have hmk : k = mt := HN.out.2.2.1.symm
      subst hmk
      by_cases hlt : j < n
      · obtain ⟨b, o, rfl, hbl0, hc⟩ := HZ.out (by omega)
        obtain ⟨x, y, u, z, c0, c1, c2, c3⟩ := hc j hlt
        have hbg : b ≠ w2.heap.size := by have := HG.out; omega
        replace c0 := (HN.out.2.2.2.cell (p := ⟨b, o + j * 4, none⟩) hbl0).trans c0
        replace c1 := (HN.out.2.2.2.cell (p := ⟨b, o + j * 4 + 1, none⟩) hbl0).trans c1
        replace c2 := (HN.out.2.2.2.cell (p := ⟨b, o + j * 4 + 2, none⟩) hbl0).trans c2
        replace c3 := (HN.out.2.2.2.cell (p := ⟨b, o + j * 4 + 3, none⟩) hbl0).trans c3
        have hbl : b < wr.heap.size := Nat.lt_of_lt_of_le hbl0 HN.out.2.2.2.size
        clear hc
        have hlt' : (j : Int) < (n : Int) := by omega
        obtain ⟨⟨d0, d1, d2, d3, d4, d5⟩, f0, f1, f2, f3, f4, f5⟩ := HN.out.1.all
        dsimp only at d0 d1 d2 d3 d4 d5
        have hmay := HN.out.2.1
        clear hn hn'
        by_cases hx0 : x = 0
        · subst hx0
          obtain ⟨cw', th', pa', mt', re', ex', ht⟩ : ∃ cw' th' pa' mt' re' ex', WS.acked ⟨cw, th, pa, k, re, ex⟩ y u z = ⟨cw', th', pa', mt', re', ex'⟩ := ⟨_, _, _, _, _, _, rfl⟩
          have hm2 := may_acked hmay y u z
          rw [ht] at hm2
          have hm3 : mt' = k := hm2.2.1
          have hm3' := hm3.symm
          subst hm3'
          clear hm3
          have HM2 := keep hm2.1
          have K3 := keep (fun w => Acked_at ht w)
          have K4 : ∀ w : World, Calls Try.prog 13 #[.agg #[.int .i64 cw', .int .i64 th', .int .i64 pa', .int .i64 k, .bool re', .int .u32 ex']] w fun e w' => e = .returned (.agg #[.int .i64 cw', .int .i64 th', .int .i64 pa', .int .i64 k, .bool re', .int .u32 ex']) ∧ Below w.heap.size w w' := fun w => theirs_any ⟨cw', th', pa', k, re', ex'⟩ w
          have K5 : ∀ w : World, Calls Try.prog 12 #[.agg #[.int .i64 cw', .int .i64 th', .int .i64 pa', .int .i64 k, .bool re', .int .u32 ex']] w fun e w' => e = .returned (.bool true) ∧ Below w.heap.size w w' := fun w => by
            have := May_any ⟨cw', th', pa', k, re', ex'⟩ w
            rw [HM2.out] at this
            exact this
          replace K4 := keep K4
          replace K5 := keep K5
          clear ht hm2 hmay
          go_wp2_with fail
          refine wp_region_held_drew (S := (fun w' => w'.cell? ⟨b, o + j * 4 + 1, none⟩ = some (.int .i64 y) ∧ w'.cell? ⟨b, o + j * 4 + 2, none⟩ = some (.bool u) ∧ w'.cell? ⟨b, o + j * 4 + 3, none⟩ = some (.int .u32 z))) (by kernel_rfl) ⟨c1, c2, c3⟩ (fun hHeld => ?_)
          refine wpAnyH_take (i := 1) (oi := { dst := Option.some 34, op := Go.Op.move (Go.Operand.tmp 1), type := 22, pos := "law.go:51", after := #[], guard := Option.none }) (v := ?va1) rfl (by kernel_rfl) (by kernel_rfl) (by kernel_rfl) (fun _ _ _ h => h) (Or.inl ⟨by rfl, ?hya1⟩) (by assumption) ?resta1
          case hya1 => (intro wz hSw; (try dsimp only at hSw); go_simp <;> (try with_reducible rfl))
          try simp only [Act.put, List.setIfInBounds_toArray, List.set_cons_zero, List.set_cons_succ]
          refine wpAnyH_take (i := 2) (oi := { dst := Option.some 35, op := Go.Op.move (Go.Operand.tmp 8), type := 3, pos := "law.go:51", after := #[], guard := Option.none }) (v := ?va2) rfl (by kernel_rfl) (by kernel_rfl) (by kernel_rfl) (fun _ _ _ h => h) (Or.inl ⟨by rfl, ?hya2⟩) (by assumption) ?resta2
          case hya2 => (intro wz hSw; (try dsimp only at hSw); go_simp <;> (try with_reducible rfl))
          try simp only [Act.put, List.setIfInBounds_toArray, List.set_cons_zero, List.set_cons_succ]
          refine wpAnyH_take (i := 3) (oi := { dst := Option.some 36, op := Go.Op.indexAddr 22 (Go.Operand.tmp 34) (Go.Operand.tmp 35), type := 0, pos := "law.go:51", after := #[{ on := 1, ground := Go.Ground.data }, { on := 2, ground := Go.Ground.data }], guard := Option.none }) (v := ?va3) rfl (by kernel_rfl) (by kernel_rfl) (by kernel_rfl) (fun _ _ _ h => h) (Or.inl ⟨by rfl, ?hya3⟩) (by assumption) ?resta3
          case hya3 => (intro wz hSw; (try dsimp only at hSw); go_simp <;> (try with_reducible rfl))
          try simp only [Act.put, List.setIfInBounds_toArray, List.set_cons_zero, List.set_cons_succ]
          refine wpAnyH_take (i := 4) (oi := { dst := Option.some 37, op := Go.Op.fieldAddr 29 (Go.Operand.tmp 36) 1, type := 0, pos := "law.go:51", after := #[{ on := 3, ground := Go.Ground.data }], guard := Option.none }) (v := ?va4) rfl (by kernel_rfl) (by kernel_rfl) (by kernel_rfl) (fun _ _ _ h => h) (Or.inl ⟨by rfl, ?hya4⟩) (by assumption) ?resta4
          case hya4 => (intro wz hSw; (try dsimp only at hSw); go_simp <;> (try with_reducible rfl))
          try simp only [Act.put, List.setIfInBounds_toArray, List.set_cons_zero, List.set_cons_succ]
          refine wpAnyH_take (i := 5) (oi := { dst := Option.some 38, op := Go.Op.load 3 (Go.Operand.tmp 37), type := 3, pos := "law.go:51", after := #[{ on := 4, ground := Go.Ground.data }], guard := Option.none }) (v := ?va5) rfl (by kernel_rfl) (by kernel_rfl) (by kernel_rfl) (fun _ _ _ h => h) (Or.inl ⟨by rfl, ?hya5⟩) (by assumption) ?resta5
          case hya5 => (intro wz hSw; (try dsimp only at hSw); go_simp <;> (try with_reducible rfl))
          try simp only [Act.put, List.setIfInBounds_toArray, List.set_cons_zero, List.set_cons_succ]
          refine wpAnyH_take (i := 6) (oi := { dst := Option.some 39, op := Go.Op.move (Go.Operand.tmp 1), type := 22, pos := "law.go:51", after := #[], guard := Option.none }) (v := ?va6) rfl (by kernel_rfl) (by kernel_rfl) (by kernel_rfl) (fun _ _ _ h => h) (Or.inl ⟨by rfl, ?hya6⟩) (by assumption) ?resta6
          case hya6 => (intro wz hSw; (try dsimp only at hSw); go_simp <;> (try with_reducible rfl))
          try simp only [Act.put, List.setIfInBounds_toArray, List.set_cons_zero, List.set_cons_succ]
          refine wpAnyH_take (i := 7) (oi := { dst := Option.some 40, op := Go.Op.move (Go.Operand.tmp 8), type := 3, pos := "law.go:51", after := #[], guard := Option.none }) (v := ?va7) rfl (by kernel_rfl) (by kernel_rfl) (by kernel_rfl) (fun _ _ _ h => h) (Or.inl ⟨by rfl, ?hya7⟩) (by assumption) ?resta7
          case hya7 => (intro wz hSw; (try dsimp only at hSw); go_simp <;> (try with_reducible rfl))
          try simp only [Act.put, List.setIfInBounds_toArray, List.set_cons_zero, List.set_cons_succ]
          refine wpAnyH_take (i := 8) (oi := { dst := Option.some 41, op := Go.Op.indexAddr 22 (Go.Operand.tmp 39) (Go.Operand.tmp 40), type := 0, pos := "law.go:51", after := #[{ on := 6, ground := Go.Ground.data }, { on := 7, ground := Go.Ground.data }], guard := Option.none }) (v := ?va8) rfl (by kernel_rfl) (by kernel_rfl) (by kernel_rfl) (fun _ _ _ h => h) (Or.inl ⟨by rfl, ?hya8⟩) (by assumption) ?resta8
          case hya8 => (intro wz hSw; (try dsimp only at hSw); go_simp <;> (try with_reducible rfl))
          try simp only [Act.put, List.setIfInBounds_toArray, List.set_cons_zero, List.set_cons_succ]
          refine wpAnyH_take (i := 9) (oi := { dst := Option.some 42, op := Go.Op.fieldAddr 29 (Go.Operand.tmp 41) 2, type := 0, pos := "law.go:51", after := #[{ on := 8, ground := Go.Ground.data }], guard := Option.none }) (v := ?va9) rfl (by kernel_rfl) (by kernel_rfl) (by kernel_rfl) (fun _ _ _ h => h) (Or.inl ⟨by rfl, ?hya9⟩) (by assumption) ?resta9
          case hya9 => (intro wz hSw; (try dsimp only at hSw); go_simp <;> (try with_reducible rfl))
          try simp only [Act.put, List.setIfInBounds_toArray, List.set_cons_zero, List.set_cons_succ]
          refine wpAnyH_take (i := 10) (oi := { dst := Option.some 43, op := Go.Op.load 4 (Go.Operand.tmp 42), type := 4, pos := "law.go:51", after := #[{ on := 9, ground := Go.Ground.data }], guard := Option.none }) (v := ?va10) rfl (by kernel_rfl) (by kernel_rfl) (by kernel_rfl) (fun _ _ _ h => h) (Or.inl ⟨by rfl, ?hya10⟩) (by assumption) ?resta10
          case hya10 => (intro wz hSw; (try dsimp only at hSw); go_simp <;> (try with_reducible rfl))
          try simp only [Act.put, List.setIfInBounds_toArray, List.set_cons_zero, List.set_cons_succ]
          refine wpAnyH_take (i := 11) (oi := { dst := Option.some 44, op := Go.Op.move (Go.Operand.tmp 1), type := 22, pos := "law.go:51", after := #[], guard := Option.none }) (v := ?va11) rfl (by kernel_rfl) (by kernel_rfl) (by kernel_rfl) (fun _ _ _ h => h) (Or.inl ⟨by rfl, ?hya11⟩) (by assumption) ?resta11
          case hya11 => (intro wz hSw; (try dsimp only at hSw); go_simp <;> (try with_reducible rfl))
          try simp only [Act.put, List.setIfInBounds_toArray, List.set_cons_zero, List.set_cons_succ]
          refine wpAnyH_take (i := 12) (oi := { dst := Option.some 45, op := Go.Op.move (Go.Operand.tmp 8), type := 3, pos := "law.go:51", after := #[], guard := Option.none }) (v := ?va12) rfl (by kernel_rfl) (by kernel_rfl) (by kernel_rfl) (fun _ _ _ h => h) (Or.inl ⟨by rfl, ?hya12⟩) (by assumption) ?resta12
          case hya12 => (intro wz hSw; (try dsimp only at hSw); go_simp <;> (try with_reducible rfl))
          try simp only [Act.put, List.setIfInBounds_toArray, List.set_cons_zero, List.set_cons_succ]
          refine wpAnyH_take (i := 13) (oi := { dst := Option.some 46, op := Go.Op.indexAddr 22 (Go.Operand.tmp 44) (Go.Operand.tmp 45), type := 0, pos := "law.go:51", after := #[{ on := 11, ground := Go.Ground.data }, { on := 12, ground := Go.Ground.data }], guard := Option.none }) (v := ?va13) rfl (by kernel_rfl) (by kernel_rfl) (by kernel_rfl) (fun _ _ _ h => h) (Or.inl ⟨by rfl, ?hya13⟩) (by assumption) ?resta13
          case hya13 => (intro wz hSw; (try dsimp only at hSw); go_simp <;> (try with_reducible rfl))
          try simp only [Act.put, List.setIfInBounds_toArray, List.set_cons_zero, List.set_cons_succ]
          refine wpAnyH_take (i := 14) (oi := { dst := Option.some 47, op := Go.Op.fieldAddr 29 (Go.Operand.tmp 46) 3, type := 0, pos := "law.go:51", after := #[{ on := 13, ground := Go.Ground.data }], guard := Option.none }) (v := ?va14) rfl (by kernel_rfl) (by kernel_rfl) (by kernel_rfl) (fun _ _ _ h => h) (Or.inl ⟨by rfl, ?hya14⟩) (by assumption) ?resta14
          case hya14 => (intro wz hSw; (try dsimp only at hSw); go_simp <;> (try with_reducible rfl))
          try simp only [Act.put, List.setIfInBounds_toArray, List.set_cons_zero, List.set_cons_succ]
          refine wpAnyH_take (i := 15) (oi := { dst := Option.some 48, op := Go.Op.load 24 (Go.Operand.tmp 47), type := 24, pos := "law.go:51", after := #[{ on := 14, ground := Go.Ground.data }], guard := Option.none }) (v := ?va15) rfl (by kernel_rfl) (by kernel_rfl) (by kernel_rfl) (fun _ _ _ h => h) (Or.inl ⟨by rfl, ?hya15⟩) (by assumption) ?resta15
          case hya15 => (intro wz hSw; (try dsimp only at hSw); go_simp <;> (try with_reducible rfl))
          try simp only [Act.put, List.setIfInBounds_toArray, List.set_cons_zero, List.set_cons_succ]
          refine wpAnyH_ready (rs := [0]) (by kernel_rfl) (by simp) (AllReadyH.cons (o := { dst := Option.some 33, op := Go.Op.load 26 (Go.Operand.tmp 6), type := 26, pos := "law.go:51", after := #[], guard := Option.none }) rfl (fun K hK => ?_) AllReadyH.nil)
          go_simp
          refine hK.out _ _ ⟨c1, c2, c3⟩ (fun hHeld => ?_)
          clear hK K
          try simp only [Act.put, List.setIfInBounds_toArray, List.set_cons_zero, List.set_cons_succ]
          refine wpAnyH_ready (rs := [16]) (by kernel_rfl) (by simp) (AllReadyH.cons (o := { dst := Option.some 49, op := Go.Op.call { callee := Go.Callee.value (Go.Operand.func 9), args := #[Go.Operand.tmp 33, Go.Operand.tmp 38, Go.Operand.tmp 43, Go.Operand.tmp 48], argTypes := #[26, 3, 4, 24] }, type := 26, pos := "law.go:51", after := #[{ on := 0, ground := Go.Ground.data }, { on := 5, ground := Go.Ground.data }, { on := 10, ground := Go.Ground.data }, { on := 15, ground := Go.Ground.data }], guard := Option.none }) rfl (fun K hK => ?_) AllReadyH.nil)
          go_simp
          go_at_call 9
          refine (K3.out _).mono ?_
          rintro e w4 ⟨rfl, hb4⟩
          have R4 := HN.out.1.drew.step hb4
          obtain ⟨⟨d0, d1, d2, d3, d4, d5⟩, f0, f1, f2, f3, f4, f5⟩ := R4.all
          dsimp only at d0 d1 d2 d3 d4 d5
          have R5 := keep (laid6 R4 ⟨cw', th', pa', k, re', ex'⟩)
          have B5 := keep (below6 (up HN.out.2.2.2.drew hb4) HG.out ⟨cw', th', pa', k, re', ex'⟩)
          have pc1 := (hb4.cell (p := ⟨b, o + j * 4 + 1, none⟩) hbl).trans c1
          have qc1 := (cell6 (k := w2.heap.size) (s := ⟨cw', th', pa', k, re', ex'⟩) (p := ⟨b, o + j * 4 + 1, none⟩) hbg).trans pc1
          have pc2 := (hb4.cell (p := ⟨b, o + j * 4 + 2, none⟩) hbl).trans c2
          have qc2 := (cell6 (k := w2.heap.size) (s := ⟨cw', th', pa', k, re', ex'⟩) (p := ⟨b, o + j * 4 + 2, none⟩) hbg).trans pc2
          have pc3 := (hb4.cell (p := ⟨b, o + j * 4 + 3, none⟩) hbl).trans c3
          have qc3 := (cell6 (k := w2.heap.size) (s := ⟨cw', th', pa', k, re', ex'⟩) (p := ⟨b, o + j * 4 + 3, none⟩) hbg).trans pc3
          clear hb4 R4
          (try go_wp2_with fail)
          refine hK.out _ _ ⟨pc1, pc2, pc3⟩ (fun hHeld => ?_)
          clear hK K
          try simp only [Act.put, List.setIfInBounds_toArray, List.set_cons_zero, List.set_cons_succ]
          refine wpAnyH_ready (rs := [17]) (by kernel_rfl) (by simp) (AllReadyH.cons (o := { dst := Option.none, op := Go.Op.store 26 (Go.Operand.tmp 6) (Go.Operand.tmp 49), type := 0, pos := "law.go:51", after := #[{ on := 16, ground := Go.Ground.data }, { on := 16, ground := Go.Ground.chain }, { on := 0, ground := Go.Ground.phase }, { on := 1, ground := Go.Ground.phase }, { on := 2, ground := Go.Ground.phase }, { on := 3, ground := Go.Ground.phase }, { on := 4, ground := Go.Ground.phase }, { on := 5, ground := Go.Ground.phase }, { on := 6, ground := Go.Ground.phase }, { on := 7, ground := Go.Ground.phase }, { on := 8, ground := Go.Ground.phase }, { on := 9, ground := Go.Ground.phase }, { on := 10, ground := Go.Ground.phase }, { on := 11, ground := Go.Ground.phase }, { on := 12, ground := Go.Ground.phase }, { on := 13, ground := Go.Ground.phase }, { on := 14, ground := Go.Ground.phase }, { on := 15, ground := Go.Ground.phase }, { on := 16, ground := Go.Ground.phase }], guard := Option.none }) rfl (fun K hK => ?_) AllReadyH.nil)
          go_simp
          (try go_wp2_with fail)
          refine hK.out _ _ ⟨qc1, qc2, qc3⟩ (fun hHeld => ?_)
          clear hK K
          try simp only [Act.put, List.setIfInBounds_toArray, List.set_cons_zero, List.set_cons_succ]
          refine wpAnyH_done (by kernel_rfl) ?_ _
          obtain ⟨⟨x0, x1, x2, x3, x4, x5⟩, _⟩ := R5.out.all
          dsimp only at x0 x1 x2 x3 x4 x5
          go_wp2_with (first
            | (go_at_call 13; refine (K4.out _).mono ?_; rintro e w6 ⟨rfl, hb6⟩
               have R6 := keep (R5.out.step hb6)
               have B6 := keep (up B5.out hb6)
               clear hb6)
            | (go_at_call 12; refine (K5.out _).mono ?_; rintro e w7 ⟨rfl, hb7⟩
               have R7 := R6.out.step hb7
               obtain ⟨⟨y0, y1, y2, y3, y4, y5⟩, _⟩ := R7.all
               dsimp only at y0 y1 y2 y3 y4 y5
               replace R7 := keep R7
               have B7 := keep (up B6.out hb7)
               clear hb7))
          all_goals
            go_roundw
            case rel => exact ⟨j + 1, ⟨cw', th', pa', k, re', ex'⟩, by go_num, by omega, keep ⟨R7.out, HM2.out, rfl, B7.out⟩⟩
            case measure => simp [intOf]; omega
        by_cases hx1 : x = 1
        · subst hx1
          clear hx0
          obtain ⟨cw', th', pa', mt', re', ex', ht⟩ : ∃ cw' th' pa' mt' re' ex', WS.lost ⟨cw, th, pa, k, re, ex⟩ z = ⟨cw', th', pa', mt', re', ex'⟩ := ⟨_, _, _, _, _, _, rfl⟩
          have hm2 := may_lost hmay z
          rw [ht] at hm2
          have hm3 : mt' = k := hm2.2.1
          have hm3' := hm3.symm
          subst hm3'
          clear hm3
          have HM2 := keep hm2.1
          have K3 := keep (fun w => Lost_at ht w)
          have K4 : ∀ w : World, Calls Try.prog 13 #[.agg #[.int .i64 cw', .int .i64 th', .int .i64 pa', .int .i64 k, .bool re', .int .u32 ex']] w fun e w' => e = .returned (.agg #[.int .i64 cw', .int .i64 th', .int .i64 pa', .int .i64 k, .bool re', .int .u32 ex']) ∧ Below w.heap.size w w' := fun w => theirs_any ⟨cw', th', pa', k, re', ex'⟩ w
          have K5 : ∀ w : World, Calls Try.prog 12 #[.agg #[.int .i64 cw', .int .i64 th', .int .i64 pa', .int .i64 k, .bool re', .int .u32 ex']] w fun e w' => e = .returned (.bool true) ∧ Below w.heap.size w w' := fun w => by
            have := May_any ⟨cw', th', pa', k, re', ex'⟩ w
            rw [HM2.out] at this
            exact this
          replace K4 := keep K4
          replace K5 := keep K5
          clear ht hm2 hmay
          go_wp2_with fail
          refine wp_region_held_drew (S := (fun w' => w'.cell? ⟨b, o + j * 4 + 3, none⟩ = some (.int .u32 z))) (by kernel_rfl) c3 (fun hHeld => ?_)
          refine wpAnyH_take (i := 1) (oi := { dst := Option.some 53, op := Go.Op.move (Go.Operand.tmp 1), type := 22, pos := "law.go:53", after := #[], guard := Option.none }) (v := ?vl1) rfl (by kernel_rfl) (by kernel_rfl) (by kernel_rfl) (fun _ _ _ h => h) (Or.inl ⟨by rfl, ?hyl1⟩) (by assumption) ?restl1
          case hyl1 => (intro wz hSw; (try dsimp only at hSw); go_simp <;> (try with_reducible rfl))
          try simp only [Act.put, List.setIfInBounds_toArray, List.set_cons_zero, List.set_cons_succ]
          refine wpAnyH_take (i := 2) (oi := { dst := Option.some 54, op := Go.Op.move (Go.Operand.tmp 8), type := 3, pos := "law.go:53", after := #[], guard := Option.none }) (v := ?vl2) rfl (by kernel_rfl) (by kernel_rfl) (by kernel_rfl) (fun _ _ _ h => h) (Or.inl ⟨by rfl, ?hyl2⟩) (by assumption) ?restl2
          case hyl2 => (intro wz hSw; (try dsimp only at hSw); go_simp <;> (try with_reducible rfl))
          try simp only [Act.put, List.setIfInBounds_toArray, List.set_cons_zero, List.set_cons_succ]
          refine wpAnyH_take (i := 3) (oi := { dst := Option.some 55, op := Go.Op.indexAddr 22 (Go.Operand.tmp 53) (Go.Operand.tmp 54), type := 0, pos := "law.go:53", after := #[{ on := 1, ground := Go.Ground.data }, { on := 2, ground := Go.Ground.data }], guard := Option.none }) (v := ?vl3) rfl (by kernel_rfl) (by kernel_rfl) (by kernel_rfl) (fun _ _ _ h => h) (Or.inl ⟨by rfl, ?hyl3⟩) (by assumption) ?restl3
          case hyl3 => (intro wz hSw; (try dsimp only at hSw); go_simp <;> (try with_reducible rfl))
          try simp only [Act.put, List.setIfInBounds_toArray, List.set_cons_zero, List.set_cons_succ]
          refine wpAnyH_take (i := 4) (oi := { dst := Option.some 56, op := Go.Op.fieldAddr 29 (Go.Operand.tmp 55) 3, type := 0, pos := "law.go:53", after := #[{ on := 3, ground := Go.Ground.data }], guard := Option.none }) (v := ?vl4) rfl (by kernel_rfl) (by kernel_rfl) (by kernel_rfl) (fun _ _ _ h => h) (Or.inl ⟨by rfl, ?hyl4⟩) (by assumption) ?restl4
          case hyl4 => (intro wz hSw; (try dsimp only at hSw); go_simp <;> (try with_reducible rfl))
          try simp only [Act.put, List.setIfInBounds_toArray, List.set_cons_zero, List.set_cons_succ]
          refine wpAnyH_take (i := 5) (oi := { dst := Option.some 57, op := Go.Op.load 24 (Go.Operand.tmp 56), type := 24, pos := "law.go:53", after := #[{ on := 4, ground := Go.Ground.data }], guard := Option.none }) (v := ?vl5) rfl (by kernel_rfl) (by kernel_rfl) (by kernel_rfl) (fun _ _ _ h => h) (Or.inl ⟨by rfl, ?hyl5⟩) (by assumption) ?restl5
          case hyl5 => (intro wz hSw; (try dsimp only at hSw); go_simp <;> (try with_reducible rfl))
          try simp only [Act.put, List.setIfInBounds_toArray, List.set_cons_zero, List.set_cons_succ]
          refine wpAnyH_ready (rs := [0]) (by kernel_rfl) (by simp) (AllReadyH.cons (o := { dst := Option.some 52, op := Go.Op.load 26 (Go.Operand.tmp 6), type := 26, pos := "law.go:53", after := #[], guard := Option.none }) rfl (fun K hK => ?_) AllReadyH.nil)
          go_simp
          refine hK.out _ _ c3 (fun hHeld => ?_)
          clear hK K
          try simp only [Act.put, List.setIfInBounds_toArray, List.set_cons_zero, List.set_cons_succ]
          refine wpAnyH_ready (rs := [6]) (by kernel_rfl) (by simp) (AllReadyH.cons (o := { dst := Option.some 58, op := Go.Op.call { callee := Go.Callee.value (Go.Operand.func 10), args := #[Go.Operand.tmp 52, Go.Operand.tmp 57], argTypes := #[26, 24] }, type := 26, pos := "law.go:53", after := #[{ on := 0, ground := Go.Ground.data }, { on := 5, ground := Go.Ground.data }], guard := Option.none }) rfl (fun K hK => ?_) AllReadyH.nil)
          go_simp
          go_at_call 10
          refine (K3.out _).mono ?_
          rintro e w4 ⟨rfl, hb4⟩
          have R4 := HN.out.1.drew.step hb4
          obtain ⟨⟨d0, d1, d2, d3, d4, d5⟩, f0, f1, f2, f3, f4, f5⟩ := R4.all
          dsimp only at d0 d1 d2 d3 d4 d5
          have R5 := keep (laid6 R4 ⟨cw', th', pa', k, re', ex'⟩)
          have B5 := keep (below6 (up HN.out.2.2.2.drew hb4) HG.out ⟨cw', th', pa', k, re', ex'⟩)
          have pc3 := (hb4.cell (p := ⟨b, o + j * 4 + 3, none⟩) hbl).trans c3
          have qc3 := (cell6 (k := w2.heap.size) (s := ⟨cw', th', pa', k, re', ex'⟩) (p := ⟨b, o + j * 4 + 3, none⟩) hbg).trans pc3
          clear hb4 R4
          (try go_wp2_with fail)
          refine hK.out _ _ pc3 (fun hHeld => ?_)
          clear hK K
          try simp only [Act.put, List.setIfInBounds_toArray, List.set_cons_zero, List.set_cons_succ]
          refine wpAnyH_ready (rs := [7]) (by kernel_rfl) (by simp) (AllReadyH.cons (o := { dst := Option.none, op := Go.Op.store 26 (Go.Operand.tmp 6) (Go.Operand.tmp 58), type := 0, pos := "law.go:53", after := #[{ on := 6, ground := Go.Ground.data }, { on := 6, ground := Go.Ground.chain }, { on := 0, ground := Go.Ground.phase }, { on := 1, ground := Go.Ground.phase }, { on := 2, ground := Go.Ground.phase }, { on := 3, ground := Go.Ground.phase }, { on := 4, ground := Go.Ground.phase }, { on := 5, ground := Go.Ground.phase }, { on := 6, ground := Go.Ground.phase }], guard := Option.none }) rfl (fun K hK => ?_) AllReadyH.nil)
          go_simp
          (try go_wp2_with fail)
          refine hK.out _ _ qc3 (fun hHeld => ?_)
          clear hK K
          try simp only [Act.put, List.setIfInBounds_toArray, List.set_cons_zero, List.set_cons_succ]
          refine wpAnyH_done (by kernel_rfl) ?_ _
          obtain ⟨⟨x0, x1, x2, x3, x4, x5⟩, _⟩ := R5.out.all
          dsimp only at x0 x1 x2 x3 x4 x5
          go_wp2_with (first
            | (go_at_call 13; refine (K4.out _).mono ?_; rintro e w6 ⟨rfl, hb6⟩
               have R6 := keep (R5.out.step hb6)
               have B6 := keep (up B5.out hb6)
               clear hb6)
            | (go_at_call 12; refine (K5.out _).mono ?_; rintro e w7 ⟨rfl, hb7⟩
               have R7 := R6.out.step hb7
               obtain ⟨⟨y0, y1, y2, y3, y4, y5⟩, _⟩ := R7.all
               dsimp only at y0 y1 y2 y3 y4 y5
               replace R7 := keep R7
               have B7 := keep (up B6.out hb7)
               clear hb7))
          all_goals
            go_roundw
            case rel => exact ⟨j + 1, ⟨cw', th', pa', k, re', ex'⟩, by go_num, by omega, keep ⟨R7.out, HM2.out, rfl, B7.out⟩⟩
            case measure => simp [intOf]; omega
        · clear c1 c2 c3
          obtain ⟨cw', th', pa', mt', re', ex', ht⟩ : ∃ cw' th' pa' mt' re' ex', WS.back ⟨cw, th, pa, k, re, ex⟩ = ⟨cw', th', pa', mt', re', ex'⟩ := ⟨_, _, _, _, _, _, rfl⟩
          have hm2 := may_back hmay
          rw [ht] at hm2
          have hm3 : mt' = k := hm2.2.1
          have hm3' := hm3.symm
          subst hm3'
          clear hm3
          have HM2 := keep hm2.1
          have K3 := keep (fun w => Timeout_at ht w)
          have K4 : ∀ w : World, Calls Try.prog 13 #[.agg #[.int .i64 cw', .int .i64 th', .int .i64 pa', .int .i64 k, .bool re', .int .u32 ex']] w fun e w' => e = .returned (.agg #[.int .i64 cw', .int .i64 th', .int .i64 pa', .int .i64 k, .bool re', .int .u32 ex']) ∧ Below w.heap.size w w' := fun w => theirs_any ⟨cw', th', pa', k, re', ex'⟩ w
          have K5 : ∀ w : World, Calls Try.prog 12 #[.agg #[.int .i64 cw', .int .i64 th', .int .i64 pa', .int .i64 k, .bool re', .int .u32 ex']] w fun e w' => e = .returned (.bool true) ∧ Below w.heap.size w w' := fun w => by
            have := May_any ⟨cw', th', pa', k, re', ex'⟩ w
            rw [HM2.out] at this
            exact this
          replace K4 := keep K4
          replace K5 := keep K5
          clear ht hm2 hmay
          go_wp2_with (first
            | (go_at_call 11; refine (K3.out _).mono ?_; rintro e w4 ⟨rfl, hb4⟩
               have R4 := (HN.out.1).step hb4
               obtain ⟨⟨d0, d1, d2, d3, d4, d5⟩, f0, f1, f2, f3, f4, f5⟩ := R4.all
               dsimp only at d0 d1 d2 d3 d4 d5
               have R5 := keep (laid6 R4 ⟨cw', th', pa', k, re', ex'⟩)
               have B5 := keep (below6 (up (HN.out.2.2.2) hb4) HG.out ⟨cw', th', pa', k, re', ex'⟩)
               obtain ⟨⟨x0, x1, x2, x3, x4, x5⟩, _⟩ := R5.out.all
               dsimp only at x0 x1 x2 x3 x4 x5
               clear hb4 R4)
            | (go_at_call 13; refine (K4.out _).mono ?_; rintro e w6 ⟨rfl, hb6⟩
               have R6 := keep (R5.out.step hb6)
               have B6 := keep (up B5.out hb6)
               clear hb6)
            | (go_at_call 12; refine (K5.out _).mono ?_; rintro e w7 ⟨rfl, hb7⟩
               have R7 := R6.out.step hb7
               obtain ⟨⟨y0, y1, y2, y3, y4, y5⟩, _⟩ := R7.all
               dsimp only at y0 y1 y2 y3 y4 y5
               replace R7 := keep R7
               have B7 := keep (up B6.out hb7)
               clear hb7))
          all_goals
            go_roundw
            case rel => exact ⟨j + 1, ⟨cw', th', pa', k, re', ex'⟩, by go_num, by omega, keep ⟨R7.out, HM2.out, rfl, B7.out⟩⟩
            case measure => simp [intOf]; omega
      · obtain rfl : n = j := by omega
        have B := keep HN.out.2.2.2
        go_wp2_with fail
        all_goals go_ret
        all_goals exact ⟨rfl, B.out⟩
  · have hn' : 2000 < (n : Int) := by omega
    clear hz hn
    go_enter Try.func3, Try.ntmps3
    go_wp2_with (go_at_call 7; refine (K0.out _).mono ?_; rintro e w1 ⟨rfl, hb1⟩; replace hb1 := keep hb1)
    go_ret
    exact ⟨rfl, hb1.out⟩
end Go.Proofs.Ytjogpkkokblmoaa
