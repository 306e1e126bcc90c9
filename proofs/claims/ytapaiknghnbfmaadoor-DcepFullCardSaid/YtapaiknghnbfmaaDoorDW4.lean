/- The walk of DcepFull. -/
import Derived.Test.YtapaiknghnbfmaaDoorDF1
namespace Go.Proofs.YtapaiknghnbfmaaDoor
open Go.RowKit
set_option linter.unusedVariables false

theorem and_le_i64 (i : Int) (m : Nat) (hm : m < 4294967296) : ∃ z : Nat, bits .and .i64 i (m : Int) = (z : Int) ∧ z ≤ m := by
  have h2 : (BitVec.ofInt 64 (m : Int)).toNat = m := by
    rw [BitVec.ofInt_natCast, BitVec.toNat_ofNat]; exact Nat.mod_eq_of_lt (by omega)
  refine ⟨(BitVec.ofInt 64 i).toNat &&& m, ?_, Nat.and_le_right⟩
  show IntKind.i64.wrap ((BitVec.ofInt 64 i &&& BitVec.ofInt 64 (m : Int)).toNat : Int) = _
  rw [BitVec.toNat_and, h2]
  have h3 : (BitVec.ofInt 64 i).toNat &&& m ≤ m := Nat.and_le_right
  generalize (BitVec.ofInt 64 i).toNat &&& m = r at *
  simp [IntKind.wrap, IntKind.signed, IntKind.bits]
  omega
theorem TB.under {w W W' : World} {b g : Nat} {ev : Bool} {l : List Ch} (h : TB w b g ev l W) {N : Nat} (hb : Below N W W') (h1 : b < N) (h2 : g < N) (h3 : w.heap.size ≤ N) : TB w b g ev l W' :=
  ⟨(hb.block b h1).trans h.hd, h.row.of (hb.block g h2), h.bg, h.lob, h.log, h.bl.trans (hb.mono h3), h.le⟩
theorem own_step {w w' : World} {base : Nat} {e : TypeId} {size : Nat} {v : Value} {n : Nat} {xs : List Value} (h : w.ownsRow base e size v n xs) (hb : Below w.heap.size w w') : w'.ownsRow base e size v n xs := (Part.of_below (fun _ => False) hb).own h fun _ _ hc => hc
theorem u16_info : (Tryd.prog.info? 22).map (fun i => (i.zero, i.size, i.bytes)) = some (some (.int .u16 0), 1, 2) := by kernel_rfl
def u16s (l : List Nat) : List Value := l.map fun (j : Nat) => .int .u16 (j : Int)
theorem u16s_len (l : List Nat) : (u16s l).length = l.length := by simp [u16s]
theorem askX {ev : Bool} {k i : Nat} (hi : i < k) (h : ownB ev i = true) : askE ev (fl ev k i) oX = 0 ∧ askS ev (fl ev k i) oX = i ∧ askL ev (fl ev k i) oX = fl ev k (i + 1) := by
  refine ⟨?_, ?_, ?_⟩
  · unfold askE; rw [if_pos encE_oX, ask_next hi h]
  · unfold askS; rw [if_pos encE_oX, ask_next hi h]; rfl
  · unfold askL; rw [if_pos encE_oX, ask_next hi h]; exact fl_set hi h
theorem run_la (k p l : Int) (la pr : ByteArray) (w : World) : (Instr.field 25 (.agg #[.int .u8 k, .int .u16 p, .int .u32 l, .string la, .string pr]) 3).run Tryd.prog w = .ok (.string la) w := by kernel_rfl
/-- What holds between two rounds: the table's blocks b, g, the row of numbers. -/
structure FJ (w : World) (b g N : Nat) (ev : Bool) (k i : Nat) (A : Option Addr) (n c : Nat) (W : World) : Prop where
  tb : TB w b g ev (fl ev k i) W
  row : W.ownsRow N 22 1 (.slice A n c) n (u16s (owns ev i))
  lt : b < N ∧ g < N ∧ w.heap.size ≤ N ∧ N ≤ W.heap.size
set_option maxRecDepth 100000 in
set_option maxHeartbeats 8000000 in
theorem dcepFull_walk (ev : Bool) (streams : Int) (at_ : Int) (w : World) (hs : (Lit.int .i64 streams).wf = true) (ha : (Lit.int .i64 at_).wf = true) (hT : Tabs w) :
    Calls Tryd.prog 10 #[.bool ev, .int .i64 streams, .int .i64 at_] w fun e w' => e = .returned (.bool true) ∧ Below w.heap.size w w' := by
  have K0 := keep (awake_any w hT)
  obtain ⟨z, hz, hz30⟩ := and_le_i64 streams 30 (by decide)
  obtain ⟨y, hy, _⟩ := and_le_i64 at_ 65535 (by decide)
  rw [show ((30 : Nat) : Int) = 30 from rfl] at hz
  rw [show ((65535 : Nat) : Int) = 65535 from rfl] at hy
  obtain ⟨k, hk⟩ : ∃ k : Nat, 2 + z = k := ⟨_, rfl⟩
  have hkI : (2 : Int) + (z : Int) = (k : Int) := by omega
  have hk2 : 2 ≤ k ∧ k ≤ 32 := by omega
  have KN := fun W (hW : Below w.heap.size w W) => new_tb ev (k : Int) hW
  have hcl : clampN (k : Int) = k := by unfold clampN; rw [if_neg (by omega)]; omega
  rw [hcl, fl_zero ev k] at KN
  have KN := keep KN
  have HK := keep hk2
  have HT := keep hT
  obtain ⟨i0, hi0, hz0, hz1, hz2⟩ := info_parts u16_info
  clear hT hcl hk
  go_enter Tryd.func10, Tryd.ntmps10
  go_wp2_with (first
    | (go_at_call 11; refine K0.out.mono ?_; rintro e w1 ⟨rfl, hb1⟩; have B1 := keep hb1; clear hb1)
    | (go_at_call 22; refine (KN.out _ B1.out).mono ?_; rintro e w2 ⟨b, rfl, g, H2⟩))
  have F0 := keep (show FJ w b g w2.heap.size ev k 0 none 0 0 w2 from ⟨H2.out.1, World.ownsRow_nil _ _ _ _, H2.out.1.ltb, H2.out.1.row.lt, H2.out.1.bl.size, Nat.le_refl _⟩)
  obtain ⟨N, hN⟩ : ∃ N, w2.heap.size = N := ⟨_, rfl⟩
  rw [hN] at F0
  clear hN
  go_loopw [11, 10, 12, 13, 14] (fun i v _ _ _ wr => ∃ (j : Nat) (A : Option Addr) (n c : Nat), j ≤ k ∧ i = .int .i64 j ∧ v = .slice A n c ∧ Hid (FJ w b g N ev k j A n c wr)) (fun i _ _ _ _ _ => k - (intOf i).toNat)
  case atStart => exact ⟨0, none, 0, 0, Nat.zero_le _, rfl, rfl, F0⟩
  case round =>
    clear F0 H2
    obtain ⟨j, A, n, c, hj, rfl, rfl, FJJ⟩ := hrel
    by_cases hlt : j < k
    · have hjI : (j : Int) < (k : Int) := by omega
      have hj0 : (0 : Int) ≤ (j : Int) := by omega
      have hj32 : (j : Int) ≤ 32 := by have := HK.out; omega
      obtain ⟨pb, hpb⟩ : ∃ pb, (j % 2 == 0) = pb := ⟨_, rfl⟩
      have e1 : ((j : Int) % 2 == 0) = pb := by rw [← hpb, Bool.eq_iff_iff]; simp only [beq_iff_eq]; omega
      have e2 : (Int.tmod (j : Int) 2 == 0) = pb := by rw [Int.tmod_eq_emod_of_nonneg (by omega)]; exact e1
      have hO : ownB ev j = (ev == pb) := by unfold ownB; rw [hpb]
      clear hpb
      cases hown : ownB ev j
      · have hne : (pb != ev) = true := by rw [hO] at hown; cases pb <;> cases ev <;> simp_all
        have hne2 : (pb == ev) = false := by rw [hO] at hown; cases pb <;> cases ev <;> simp_all
        have FN := keep (show FJ w b g N ev k (j + 1) A n c wr from ⟨by rw [fl_skip hown]; exact FJJ.out.tb, by rw [owns_skip hown]; exact FJJ.out.row, FJJ.out.lt⟩)
        clear hown hO
        go_wp2_with fail
        go_roundw
        case rel => exact ⟨j + 1, A, n, c, by omega, by go_num, rfl, FN⟩
        case measure => simp [intOf]; omega
      · have hne : (pb != ev) = false := by rw [hO] at hown; cases pb <;> cases ev <;> simp_all
        have hne2 : (pb == ev) = true := by rw [hO] at hown; cases pb <;> cases ev <;> simp_all
        obtain ⟨x1, x2, x3⟩ := askX hlt hown
        have KAX := keep (show Calls Tryd.prog 30 #[.pointer (some ⟨b, 0, none⟩), .agg #[.int .u8 0, .int .u16 0, .int .u32 0, .string ⟨#[120]⟩, .string ⟨#[]⟩]] wr (AskP w b g ev (fl ev k j) oX wr) from Ask_any FJJ.out.tb oX oX_ok (HT.out.step FJJ.out.tb.bl))
        have HX := keep (And.intro x1 (And.intro x2 x3))
        have HOW := keep (owns_next hown)
        have HLJ := keep hlt
        clear hown hO x1 x2 x3
        go_wp2_with (first
          | (go_at_call 30; refine KAX.out.mono ?_; rintro e w3 ⟨⟨A6, n6, c6, he6, hs6⟩, ht6, hp6⟩
             rw [HX.out.1, HX.out.2.1] at he6
             rw [HX.out.2.2] at ht6
             subst he6
             have R3 := keep (hp6.out.own FJJ.out.row fun q hq => by have h1 := (FJJ.out.row.lt q hq).1; have h2 := FJJ.out.lt; omega)
             have S3 := keep hp6.out.size
             clear hs6)
          | (at_builtin; refine wpl_append rfl (.tmp 59) (.tmp 61) 82 rfl N 22 i0 (.int .u16 0) Tryd.underlying82 hi0 hz0 hz1 rfl _ n (u16s (owns ev j)) rfl (own_step R3.out (below_lay w3 (.cells #[.int .u16 (j : Int)] 22))) (some ⟨w3.heap.size, 0, none⟩) 1 1 [.int .u16 (j : Int)] rfl rfl (SR.row (heap_alloc_new w3 _)) (by simp [Value.oneCell']) (by have h1 := FJJ.out.row.1; have h2 := owns_len ev j; rw [u16s_len] at h1; unfold maxLen; omega) (by have h1 := FJJ.out.row.1; have h2 := owns_len ev j; rw [u16s_len] at h1; rw [hz2]; omega) (by have := FJJ.out.lt; have := S3.out; simp; omega) ?_
             intro A4 c4 w4 ho4 hb4
             have B4 := keep hb4
             clear hb4))
        go_roundw
        case rel =>
          refine ⟨j + 1, A4, n + 1, c4, by have := HLJ.out; omega, by go_num, rfl, keep ⟨?_, ?_, ?_⟩⟩
          · exact (ht6.out.step (below_lay w3 _)).under B4.out FJJ.out.lt.1 FJJ.out.lt.2.1 FJJ.out.lt.2.2.1
          · rw [HOW.out]
            have h1 := ho4.out
            rw [show u16s (owns ev j ++ [j]) = u16s (owns ev j) ++ [.int .u16 (j : Int)] by simp [u16s]]
            exact h1
          · have := FJJ.out.lt
            have := S3.out
            have h5 := B4.out.size
            simp at h5
            omega
        case measure => simp [intOf]; have := HLJ.out; omega
    · obtain rfl : j = k := by omega
      have hrow := FJJ.out.row
      have hn : n = (owns ev j).length := by have h1 := hrow.1; rw [u16s_len] at h1; omega
      have hnp : 0 < n := by rw [hn]; exact owns_pos HK.out.1
      have hn32 : n ≤ 32 := by have h1 := owns_len ev j; have := HK.out; omega
      obtain ⟨ix, hix⟩ : ∃ ix, y % n = ix := ⟨_, rfl⟩
      have hixl : ix < n := by rw [← hix]; exact Nat.mod_lt _ hnp
      have i1 : (y : Int) % (n : Int) = (ix : Int) := by rw [← hix]; omega
      have i2 : Int.tmod (y : Int) (n : Int) = (ix : Int) := by rw [Int.tmod_eq_emod_of_nonneg (by omega)]; exact i1
      have i3 : ((n : Int) == 0) = false := by simp; omega
      have i4 : (ix : Int) < (n : Int) := by omega
      have i5 : (0 : Int) ≤ (ix : Int) := by omega
      have i6 : ¬ ((n : Int) = 0) := by omega
      obtain ⟨s, hsx, hsk, hso⟩ := owns_in (ev := ev) (k := j) (j := ix) (by omega)
      have hFull := keep (full_of hsk hso)
      have hsI : (s : Int) < 65536 := by have := HK.out; omega
      have hS65 : s < 65536 := by have := HK.out; omega
      have N1 := keep (ask_no (ask_full (ev := ev) (k := j)))
      have N2 := keep (ask_no hFull.out.a1)
      have N3 := keep (ask_yes hFull.out.a2)
      have HSX := keep hsx
      have HIX := keep hixl
      have KA := keep (fun L W (h : TB w b g ev L W) => show Calls Tryd.prog 30 #[.pointer (some ⟨b, 0, none⟩), .agg #[.int .u8 0, .int .u16 0, .int .u32 0, .string ⟨#[]⟩, .string ⟨#[]⟩]] W (AskP w b g ev L oZ W) from Ask_any h oZ oZ_ok (HT.out.step h.bl))
      have KY := keep (fun L W (h : TB w b g ev L W) => show Calls Tryd.prog 30 #[.pointer (some ⟨b, 0, none⟩), .agg #[.int .u8 0, .int .u16 0, .int .u32 0, .string ⟨#[121]⟩, .string ⟨#[]⟩]] W (AskP w b g ev L oY W) from Ask_any h oY oY_ok (HT.out.step h.bl))
      clear hrow hn hsx hsk hso hix hixl
      have hfld := fun w => run_la 0 0 0 ⟨#[121]⟩ ⟨#[]⟩ w
      go_wp2_with (first
        | (go_at_call 30; first
           | ((with_reducible refine (KY.out _ _ T5.out).mono ?_); rintro e w8 ⟨⟨A8, n8, c8, he8, hs8⟩, ht8, hp8⟩
              rw [N3.out.1, N3.out.2.1] at he8
              rw [N3.out.2.2, hFull.out.a3] at ht8
              subst he8
              have KO := Opening_any ht8.out s hS65
              rw [hFull.out.at_] at KO
              dsimp only [cY, oY, OV.cells] at KO
              replace KO := keep KO)
           | ((with_reducible refine (KA.out _ _ T2.out).mono ?_); rintro e w5 ⟨⟨A5, n5, c5, he5, hs5⟩, ht5, hp5⟩
              rw [N2.out.1, N2.out.2.1] at he5
              rw [N2.out.2.2] at ht5
              subst he5
              have T3 := keep ht5.out)
           | ((with_reducible refine (KA.out _ _ FJJ.out.tb).mono ?_); rintro e w3 ⟨⟨A6, n6, c6, he6, hs6⟩, ht6, hp6⟩
              rw [N1.out.1, N1.out.2.1] at he6
              rw [N1.out.2.2] at ht6
              subst he6
              have T1 := keep ht6.out
              have R3 := keep (hp6.out.own FJJ.out.row fun q hq => by have h1 := (FJJ.out.row.lt q hq).1; have h2 := FJJ.out.lt; omega)
              obtain ⟨ga, oa, hAg, _, hcl⟩ := (SR.of_own R3.out).at_ (j := ix) (by rw [u16s_len]; have h1 := R3.out.1; rw [u16s_len] at h1; have := HIX.out; omega)
              subst hAg
              have hcl2 : w3.cell? ⟨ga, oa + ix, none⟩ = some (.int .u16 (s : Int)) := by
                rw [hcl]
                congr 1
                have h2 : (u16s (owns ev j))[ix]? = some (.int .u16 (s : Int)) := by unfold u16s; rw [List.getElem?_map, HSX.out]; rfl
                exact (List.getElem?_eq_some_iff.1 h2).2
              clear hcl hs6))
        | (go_at_call 34; refine (Close_any T1.out s hS65).mono ?_; rintro e w4 ⟨he4, ht4⟩
           rw [hFull.out.cE] at he4
           rw [hFull.out.cL] at ht4
           subst he4
           have T2 := keep ht4.out.1)
        | (go_at_call 33; refine (Freed_any T3.out s hS65).mono ?_; rintro e w6 ⟨he6, ht6⟩
           rw [hFull.out.fL] at ht6
           subst he6
           have T4 := keep ht6.out.1)
        | (go_at_call 35; refine (Gone_any T4.out s hS65).mono ?_; rintro e w7 ⟨he7, ht7⟩
           rw [hFull.out.gB] at he7
           rw [hFull.out.gL] at ht7
           subst he7
           have T5 := keep ht7.out.1)
        | (go_at_call 27; refine KO.out.mono ?_; rintro e w9 ⟨rfl, hb9⟩; have B9 := keep (ht8.out.bl.trans (hb9.mono ht8.out.bl.size)); clear hb9))
      go_ret
      exact ⟨rfl, B9.out⟩
end Go.Proofs.YtapaiknghnbfmaaDoor
