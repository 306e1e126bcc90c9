/- Package split: which message chunks are (in new memory; chunks of up to 70000 octets). -/
import Derived.Test.YthpcblbciidmeaaPc3
namespace Go.Proofs.Ythpcblbciidmeaa
open Go.RowKit
set_option linter.unusedVariables false

/-- What the call leaves: a message in new memory. -/
def TellN (w : World) (o : Option Msg) (e : Ending) (w' : World) : Prop :=
  ∃ x : MX, e = .returned (.tuple #[.agg x.cells.toArray, .bool o.isSome]) ∧ MV w' x ∧ x.msg = o.getD ⟨0, false, 0, []⟩ ∧ Below w.heap.size w w' ∧ ∀ a, x.da.1 = some a → w.heap.size ≤ a.block
theorem own_new {w : World} {base : Nat} {e : TypeId} {n m c : Nat} {A : Option Addr} {xs : List Value} (h : w.ownsRow base e 1 (.slice A n c) m xs) : ∀ a, A = some a → base ≤ a.block := by
  intro a ha
  subst ha
  exact (h.lt a.block rfl).1
set_option maxHeartbeats 1000000 in
theorem Whole_not (A : Option Addr) (n c : Nat) (l : List CX) (w : World) (h : CS w A n c l) (hn : n ≤ 1000000) (hq : whole (l.map CX.ch) = false) :
    Calls Try.prog 30 #[.slice A n c] w (TellN w none) := by
  have K1 := fun w2 (hb : Below w.heap.size w w2) => isWhole_any A n c l w2 (h.step hb) hn
  rw [hq] at K1
  replace K1 := keep K1
  have R0 := keep (show MB (w.alloc (.cells MX.zero.cells.toArray 44)) w.heap.size MX.zero from heap_alloc_new w _)
  clear h hn hq
  go_enter Try.func30, Try.ntmps30
  go_wp2_with (go_at_call 39; refine (K1.out _ (below_lay w _)).mono ?_; rintro e w2 ⟨rfl, hb⟩
               have R1 := show MB w2 w.heap.size MX.zero from (hb.block _ R0.out.lt).trans R0.out
               obtain ⟨⟨r0, r1, r2, r3⟩, rf0, rf1, rf2, rf3⟩ := R1.all
               dsimp only [MX.zero] at r0 r1 r2 r3
               replace R1 := keep R1
               have B1 := keep (up (below_lay w _) hb)
               clear hb)
  exact bodyPost_ret (ret_msg_ok rfl _ _ w.heap.size MX.zero rfl (MB.laid R1.out MX.zero)) rfl ⟨MX.zero, rfl, ⟨by decide, by decide, BS.nil _⟩, rfl, MB.below B1.out MX.zero, fun a ha => (by cases ha)⟩
theorem WJ.laid {w w5 : World} {g : Nat} {u : MX} (M : MB w5 g u) (R : MB w5 w.heap.size MX.zero) (B : Below w.heap.size w w5) (hg : w.heap.size < g) (st : Int) (un : Bool) (pp : Int) :
    WJ w g ⟨st, un, pp, (none, 0, 0), []⟩ ((((w5.setCell ⟨g, 0, none⟩ (.int .u16 st)).setCell ⟨g, 1, none⟩ (.bool un)).setCell ⟨g, 2, none⟩ (.int .u32 pp)).setCell ⟨g, 3, none⟩ (.slice none 0 0)) := by
  refine ⟨M.laid ⟨st, un, pp, (none, 0, 0), []⟩, ?_, World.ownsRow_nil _ _ _ _, ?_, hg, ?_⟩
  · have e : ∀ (W : World) (j : Nat) (v : Value), (W.setCell ⟨g, j, none⟩ v).heap[w.heap.size]? = W.heap[w.heap.size]? := fun W j v => heap_setCell_other W ⟨g, j, none⟩ w.heap.size v (Nat.ne_of_lt hg)
    unfold MB
    rw [e, e, e, e]
    exact R
  · exact (((B.setCell (p := ⟨g, 0, none⟩) (Nat.le_of_lt hg) _).setCell (p := ⟨g, 1, none⟩) (Nat.le_of_lt hg) _).setCell (p := ⟨g, 2, none⟩) (Nat.le_of_lt hg) _).setCell (p := ⟨g, 3, none⟩) (Nat.le_of_lt hg) _
  · have := M.lt
    simp
    omega
set_option maxHeartbeats 7000000 in
theorem Whole_yes (b o q c : Nat) (l : List CX) (w : World) (hbl : b < w.heap.size) (h : CS w (some ⟨b, o, none⟩) (q + 1) c l) (x : CX) (hat : At12 w b o x) (bx : CB x) (hq : q + 1 ≤ 1000000) (hD : ∀ x ∈ l, x.bs.length ≤ 70000) (hw : whole (l.map CX.ch) = true) :
    Calls Try.prog 30 #[.slice (some ⟨b, o, none⟩) (q + 1) c] w (TellN w (some ⟨x.ou, decide (x.fl / 4 % 2 = 1), x.pp, l.flatMap CX.bs⟩)) := by
  have HC := keep h
  have HD := keep hD
  have HLn := keep h.1
  have K1 := fun w2 (hb : Below w.heap.size w w2) => isWhole_any _ _ _ l w2 (h.step hb) hq
  rw [hw] at K1
  replace K1 := keep K1
  have R0 := keep (show MB (w.alloc (.cells MX.zero.cells.toArray 44)) w.heap.size MX.zero from heap_alloc_new w _)
  obtain ⟨i0, hi0, hz0, hz1, hz2⟩ := info_parts u8_info
  have hn : 0 < (q : Int) + 1 := by omega
  have K4 := fun w2 => has4_at (c0 := .int .u8 x.kd) (c2 := .int .u32 x.a) (c3 := .int .u32 x.b) (c4 := .int .u16 x.ou) (c5 := .int .u16 x.si) (c6 := .int .u32 x.pp) (c7 := .slice x.bl.1 x.bl.2.1 x.bl.2.2) (c8 := .slice x.du.1 x.du.2.1 x.du.2.2) (c9 := .slice x.sk.1 x.sk.2.1 x.sk.2.2) (c10 := .slice x.pr.1 x.pr.2.1 x.pr.2.2) (c11 := .slice x.da.1 x.da.2.1 x.da.2.2) bx.fl w2
  obtain ⟨un, hU⟩ : ∃ u, decide (x.fl / 4 % 2 = 1) = u := ⟨_, rfl⟩
  rw [hU] at K4 ⊢
  have BO := keep bx.ou
  have BP := keep bx.pp
  have HAT := keep hat
  have HBL := keep hbl
  have HQ := keep hq
  clear h hq hw hD hat bx hU hbl
  obtain ⟨xk, xf, xa, xb, xo, xs, xp, ⟨x1, x2, x3⟩, ⟨x4, x5, x6⟩, ⟨x7, x8, x9⟩, ⟨x10, x11, x12⟩, ⟨x13, x14, x15⟩, xps, xbs⟩ := x
  dsimp only at K4 BO BP ⊢
  replace K4 := keep K4
  go_enter Try.func30, Try.ntmps30
  go_wp2_with (go_at_call 39; refine (K1.out _ (below_lay w _)).mono ?_; rintro e w2 ⟨rfl, hb⟩
               have R1 := keep (show MB w2 w.heap.size MX.zero from (hb.block _ R0.out.lt).trans R0.out)
               have B1 := keep (up (below_lay w _) hb)
               have A1 := HAT.out.step B1.out HBL.out
               dsimp only [At12] at A1
               obtain ⟨c0, c1, c2, c3, c4, c5, c6, c7, c8, c9, c10, c11⟩ := A1
               have hb2 := Nat.lt_of_lt_of_le HBL.out B1.out.size
               have hne : w2.heap.size ≠ b := by omega
               clear hb)
  go_region_held3 (fun w' => w'.cell? ⟨b, o, none⟩ = some (.int .u8 xk) ∧ w'.cell? ⟨b, o + 1, none⟩ = some (.int .u8 xf) ∧ w'.cell? ⟨b, o + 2, none⟩ = some (.int .u32 xa) ∧ w'.cell? ⟨b, o + 3, none⟩ = some (.int .u32 xb) ∧ w'.cell? ⟨b, o + 4, none⟩ = some (.int .u16 xo) ∧ w'.cell? ⟨b, o + 5, none⟩ = some (.int .u16 xs) ∧ w'.cell? ⟨b, o + 6, none⟩ = some (.int .u32 xp) ∧ w'.cell? ⟨b, o + 7, none⟩ = some (.slice x1 x2 x3) ∧ w'.cell? ⟨b, o + 8, none⟩ = some (.slice x4 x5 x6) ∧ w'.cell? ⟨b, o + 9, none⟩ = some (.slice x7 x8 x9) ∧ w'.cell? ⟨b, o + 10, none⟩ = some (.slice x10 x11 x12) ∧ w'.cell? ⟨b, o + 11, none⟩ = some (.slice x13 x14 x15))
    (first | exact ⟨c0, c1, c2, c3, c4, c5, c6, c7, c8, c9, c10, c11⟩ | exact q5 | go_keep)
    (first
      | (go_at_call 40; refine (K4.out _).mono ?_; rintro e w5 ⟨rfl, hb5⟩
         have hb5' := (Below.refl w2.heap.size w2).drew.trans hb5
         have q5 := At12.step (x := ⟨xk, xf, xa, xb, xo, xs, xp, (x1, x2, x3), (x4, x5, x6), (x7, x8, x9), (x10, x11, x12), (x13, x14, x15), xps, xbs⟩) ⟨c0, c1, c2, c3, c4, c5, c6, c7, c8, c9, c10, c11⟩ hb5' hb2
         have B5 := keep (up B1.out hb5')
         have R5 := keep (show MB w5 w.heap.size MX.zero from (hb5'.block _ R1.out.lt).trans R1.out)
         dsimp only [At12] at q5
         have hne5 : w5.heap.size ≠ b := by have := hb5'.size; omega
         clear hb5 hb5')
      | (go_at_call 40; refine (K4.out _).mono ?_; rintro e w5 ⟨rfl, hb5⟩
         have lz := below_lay w2.drew (.cells MX.zero.cells.toArray 44)
         have M5 := keep (show MB w5 w2.heap.size MX.zero from (hb5.block w2.heap.size (by simp)).trans (heap_alloc_new w2.drew _))
         have hb5' := ((Below.refl w2.heap.size w2).drew.trans lz).trans (hb5.mono (by simp))
         have q5 := At12.step (x := ⟨xk, xf, xa, xb, xo, xs, xp, (x1, x2, x3), (x4, x5, x6), (x7, x8, x9), (x10, x11, x12), (x13, x14, x15), xps, xbs⟩) ⟨c0, c1, c2, c3, c4, c5, c6, c7, c8, c9, c10, c11⟩ hb5' hb2
         have B5 := keep (up B1.out hb5')
         have R5 := keep (show MB w5 w.heap.size MX.zero from (hb5'.block _ R1.out.lt).trans R1.out)
         dsimp only [At12] at q5
         obtain ⟨⟨m0, m1, m2, m3⟩, mf0, mf1, mf2, mf3⟩ := M5.out.all
         dsimp only [MX.zero] at m0 m1 m2 m3
         clear hb5 hb5' lz))
  all_goals first
    | (have lw := below_lay w5 (.cells [Value.int .u16 xo, .bool un, .int .u32 xp, .slice none 0 0].toArray 44)
       have J0 := keep (show WJ w w5.heap.size ⟨xo, un, xp, (none, 0, 0), []⟩ (w5.alloc (.cells #[Value.int .u16 xo, .bool un, .int .u32 xp, .slice none 0 0] 44)) from
         ⟨heap_alloc_new w5 _, (lw.block _ R5.out.lt).trans R5.out, World.ownsRow_nil _ _ _ _, B5.out.trans (lw.mono B5.out.size), R5.out.lt, by simp⟩)
       clear lw hne5
       generalize w5.alloc _ = W at J0 ⊢
       generalize w5.heap.size = g at J0 ⊢)
    | (have J0 := keep (WJ.laid M5.out R5.out B5.out R1.out.lt xo un xp)
       clear M5 m0 m1 m2 m3 mf0 mf1 mf2 mf3
       generalize World.setCell _ _ _ = W at J0 ⊢
       generalize w2.heap.size = g at J0 ⊢)
  all_goals
    clear q5 R5 B5 R1 B1 c0 c1 c2 c3 c4 c5 c6 c7 c8 c9 c10 c11 hne hb2 K1 K4 R0
    go_wp2_with fail
    go_loopw [26] (fun i wr => ∃ (j : Nat) (A : Option Addr) (N c' : Nat), i = .int .i64 j ∧ j ≤ q + 1 ∧ Hid (WJ w g ⟨xo, un, xp, (A, N, c'), (l.take j).flatMap CX.bs⟩ wr)) (fun i _ => q + 1 - (intOf i).toNat)
    case atStart => exact ⟨0, none, 0, 0, rfl, Nat.zero_le _, J0⟩
    case round =>
      obtain ⟨j, A, N, c', rfl, hj, HJ⟩ := hrel
      clear J0
      by_cases hlt : j < q + 1
      · obtain ⟨b', o', u, hA, hbl', hat, hlj, hv⟩ := (HC.out.step HJ.out.below).at_ hlt
        injection hA with hA
        injection hA with e1 e2
        subst e1 e2
        have lu := below_lay wr (.cells u.cells.toArray 34)
        have HV := keep (hv.step lu)
        have HLJ := keep hlj
        have HJ1 := keep (HJ.out.step lu)
        have HJQ := keep (show j + 1 ≤ q + 1 from hlt)
        have hlt' : (j : Int) < (q : Int) + 1 := by omega
        obtain ⟨hjw2, hjw1⟩ := wrap_in ((j : Int) + 1) (by have := HQ.out; omega)
        have HB9 : N + u.da.2.1 ≤ 80000000000 := by
          have e1 : (bc _).length = N * 1 := HJ.out.own.1
          rw [bc_length] at e1
          have e2 := flat_len_le HD.out j
          have e3 := HV.out.bs.len
          have e4 := HD.out _ (List.mem_of_getElem? HLJ.out)
          have e5 := HQ.out
          dsimp only at e1
          (clear hjw1 hjw2; omega)
        replace HB9 := keep HB9
        clear hv hlj lu hbl'
        obtain ⟨uk, uf, ua, ub, uo, us, uq, ⟨u1, u2, u3⟩, ⟨u4, u5, u6⟩, ⟨u7, u8, u9⟩, ⟨u10, u11, u12⟩, ⟨u13, u14, u15⟩, ups, ubs⟩ := u
        dsimp only [At12] at hat HB9
        dsimp only [CX.cells] at HJ1 HV
        obtain ⟨c0, c1, c2, c3, c4, c5, c6, c7, c8, c9, c10, c11⟩ := hat
        obtain ⟨⟨m0, m1, m2, m3⟩, mf0, mf1, mf2, mf3⟩ := HJ1.out.m.all
        dsimp only at m0 m1 m2 m3
        go_wp2_with (at_builtin; refine wpl_appendK (by decide) rfl (.tmp 31) (.tmp 33) 32 rfl (g + 1) 5 i0 (.int .u8 0) Try.underlying32 hi0 hz0 hz1 rfl _ N _ rfl HJ1.out.own u13 u14 u15 (bc ubs) rfl (by rw [Nat.mul_one, bc_length]; exact HV.out.bs.len) HV.out.bs.br.sr (bc_one ubs) (by have := HB9.out; unfold maxLen; (clear hjw1 hjw2; omega)) (by rw [hz2, Nat.mul_one]; have := HB9.out; (clear hjw1 hjw2; omega)) HJ1.out.sz ?_
                     intro A2 c2 w3 ho3 hb3 _
                     have HJ2 := keep (HJ1.out.app ho3.out hb3)
                     clear m0 m1 m2 m3 mf0 mf1 mf2 mf3
                     obtain ⟨⟨m0, m1, m2, m3⟩, mf0, mf1, mf2, mf3⟩ := (show MB w3 g _ from (hb3.block g (Nat.lt_succ_self g)).trans HJ1.out.m).all
                     dsimp only at m0 m1 m2 m3
                     clear ho3 hb3 HJ1)
        go_roundw
        case rel =>
          refine ⟨j + 1, A2, N + u14, c2, by go_num, HJQ.out, keep ?_⟩
          have := HJ2.out
          rw [show (l.take (j + 1)).flatMap CX.bs = (l.take j).flatMap CX.bs ++ ubs by rw [List.take_add_one, HLJ.out]; simp]
          exact this
        case measure => (have := HJQ.out; simp [intOf]; (clear hjw1 hjw2; omega))
      · obtain rfl : j = q + 1 := by omega
        obtain ⟨⟨m0, m1, m2, m3⟩, mf0, mf1, mf2, mf3⟩ := HJ.out.m.all
        obtain ⟨⟨r0, r1, r2, r3⟩, rf0, rf1, rf2, rf3⟩ := HJ.out.r.all
        dsimp only [MX.zero] at m0 m1 m2 m3 r0 r1 r2 r3
        have hll : l.take (q + 1) = l := List.take_of_length_le (by have := HLn.out; omega)
        go_wp2_with fail
        refine bodyPost_ret (ret_msg_ok rfl _ _ w.heap.size ⟨xo, un, xp, (A, N, c'), (l.take (q + 1)).flatMap CX.bs⟩ rfl (MB.laid HJ.out.r ⟨xo, un, xp, (A, N, c'), (l.take (q + 1)).flatMap CX.bs⟩)) rfl ⟨⟨xo, un, xp, (A, N, c'), (l.take (q + 1)).flatMap CX.bs⟩, rfl, ⟨BO.out, BP.out, MB.own HJ.out.own (Nat.lt_succ_of_lt HJ.out.gw) ⟨xo, un, xp, (A, N, c'), (l.take (q + 1)).flatMap CX.bs⟩⟩, ?_, MB.below HJ.out.below ⟨xo, un, xp, (A, N, c'), (l.take (q + 1)).flatMap CX.bs⟩, fun a ha => Nat.le_trans (by have := HJ.out.gw; omega) (own_new HJ.out.own a ha)⟩
        rw [hll]
        rfl
/-- Which message chunks are. -/
theorem Whole_any (A : Option Addr) (n c : Nat) (l : List CX) (w : World) (h : CS w A n c l) (hn : n ≤ 1000000) (hD : ∀ x ∈ l, x.bs.length ≤ 70000) :
    Calls Try.prog 30 #[.slice A n c] w (TellN w (wholeO (l.map CX.ch))) := by
  unfold wholeO
  by_cases hq : whole (l.map CX.ch) = true
  · rw [if_pos hq]
    cases n with
    | zero =>
      have : l = [] := List.eq_nil_of_length_eq_zero h.1.symm
      subst this
      cases hq
    | succ q =>
      obtain ⟨b, o, x, rfl, hbl, hat, hlx, hvx⟩ := h.at_ (j := 0) (Nat.succ_pos q)
      rw [Nat.zero_mul, Nat.add_zero] at hat
      have := Whole_yes b o q c l w hbl h x hat hvx.cb hn hD hq
      have e : msgOf (l.map CX.ch) = ⟨x.ou, decide (x.fl / 4 % 2 = 1), x.pp, l.flatMap CX.bs⟩ := by
        cases l with
        | nil => simp at hlx
        | cons z t =>
          simp at hlx
          subst hlx
          simp only [List.map_cons, msgOf, List.flatMap_cons, List.flatMap_map]
          rfl
      rw [e]
      exact this
  · rw [if_neg hq]
    exact Whole_not A n c l w h hn (by simpa using hq)
end Go.Proofs.Ythpcblbciidmeaa
