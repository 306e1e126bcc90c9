/- SendqTwice, walked. -/
import Derived.Test.YtbkepkiaabeliaaQ34
import Derived.Test.YtbkepkiaabeliaaQ35
namespace Go.Proofs.Ytbkepkiaabeliaa
open Go.RowKit Go.Maps
set_option linter.unusedVariables false

theorem bounded_any (n : Int) (w : World) : Calls Try.prog 20 #[.int .i64 n] w fun e w' => (∃ z, e = .returned (.int .i64 z)) ∧ w = w' := by
  go_enter Try.func20, Try.ntmps20
  go_wp2
  go_ret
  exact ⟨⟨_, rfl⟩, rfl⟩
theorem and31 (i : Int) : ∃ k : Nat, bits .and .i64 i 31 = (k : Int) ∧ k < 32 := by
  have h := and_i64 i 5 (by decide)
  refine ⟨(i % 32).toNat, ?_, by omega⟩
  rw [show ((2 ^ 5 - 1 : Nat) : Int) = 31 by decide] at h
  rw [h]
  omega
structure TwI (w : World) (b : Nat) (first : Int) (j : Nat) (G : Gq) (q : Qm) (W : World) : Prop where
  qs : QS w b G q W
  ln : q.es.length = j
  st : P0 q.es
  fl : flr q = (first - 1) % 4294967296
theorem Flying_qs {w W : World} {b : Nat} {G : Gq} {q : Qm} (h : QS w b G q W) {f : Nat} (hf : octs q.es [1] = f) : Calls Try.prog 27 #[.pointer (some ⟨b, 0, none⟩)] W fun e w' => e = .returned (.int .i64 (f : Int)) ∧ Hid (Below W.heap.size W w') := by
  have hb := h.gb
  subst hb hf
  exact (Flying_any h.qa).mono fun e w' hh => ⟨hh.1, hh.2⟩
theorem RsB.part {W W' : World} {g : Nat} {b sa : Int} {lo mo : Bool} (h : RsB W g b sa lo mo) {S : Nat → Prop} (hp : Part S W W') (hg : ¬ S g) : RsB W' g b sa lo mo := (Kpt.of_part (ok := fun i => ¬ S i) hp fun _ h => h).cells _ _ _ _ hg h
theorem tk_flr {q : Qm} {now room : Int} (hl : (takeQ q now room).1.length = q.es.length) : flr (tkQ q now room) = flr q := by
  unfold flr tkQ
  simp only [hl]
theorem ackQ_same {q : Qm} {c : Int} {bl : List (Int × Int)} (h : ackE q c bl = q.es) : ackQ q c bl = q := by
  unfold ackQ
  rw [h]
/-- The queue behind the first answer. -/
structure TwA (q1 q2 : Qm) (c : Int) (bl : List (Int × Int)) (k by_ f : Nat) : Prop where
  re : reachedB q1 c = true
  eq : ackQ q1 c bl = q2
  by1 : ∀ z, (ackR q1 c bl z).by_ = by_
  fl : flr q2 = c
  oc : octs q2.es [1] = f
  sm : by_ + f = 3 * k
  p2 : P2 bl q2.es
theorem tw_all {q1 : Qm} {c f0 : Int} {r k : Nat} (bl : List (Int × Int)) (hp : P1 q1.es) (hl : q1.es.length = k) (hk : k ≤ 31) (hr : r ≤ k) (hf : flr q1 = f0) (hc : c = (f0 + (r : Int)) % 4294967296) : ∃ q2 by_ f, TwA q1 q2 c bl k by_ f := by
  have hfl := flr_in q1
  have hd : dist32 (flr q1) c = (r : Int) := dist_of _ _ r (by omega) (by rw [hf]; exact hc)
  have hst : stp q1 c = r := by
    unfold stp
    rw [hd, if_pos (by omega)]
    omega
  have hre : reachedB q1 c = true := by
    unfold reachedB
    rw [hst]
    have h1 : (q1.es.take r).any waitsB = false := by
      rw [List.any_eq_false]
      intro e he
      have := (hp e (List.mem_of_mem_take he)).2.1
      unfold waitsB
      rw [this]
      decide
    rw [h1, Bool.not_false, Bool.and_true, Bool.or_eq_true, decide_eq_true_eq, beq_iff_eq]
    by_cases h0 : 0 < r
    · exact .inl h0
    · right
      obtain rfl : r = 0 := by omega
      rw [hc]
      omega
  refine ⟨_, _, _, hre, rfl, fun z => (show (ackR q1 c bl z).by_ = (ackR q1 c bl 0).by_ from rfl), ?_, rfl, ?_, (ack_p2 hp c bl).1⟩
  · have h1 := reached_flr (q := q1) (cum := c) (by omega) hre
    have h2 : (ackE q1 c bl).length = (cutQ q1 (stp q1 c)).es.length := by
      rw [(ack_p2 hp c bl).2]
      show _ = (q1.es.drop (stp q1 c)).length
      rw [List.length_drop]
    have h3 : flr (ackQ q1 c bl) = flr (cutQ q1 (stp q1 c)) := by
      unfold flr
      show (q1.nx - ((ackE q1 c bl).length : Int) - 1) % 4294967296 = _
      rw [h2]
      rfl
    exact h3.trans h1
  · rw [← hl]
    exact tw_bytes hp c bl 0
set_option maxRecDepth 100000 in
set_option maxHeartbeats 4000000 in
theorem sendqTwice_walk (first n cum : Int) (A : Option Addr) (m c : Nat) (bl : List (Int × Int)) (now : Int) (w : World) (hf : (Lit.int .u32 first).wf = true) (_ : (Lit.int .i64 n).wf = true) (_ : (Lit.int .i64 cum).wf = true) (hbl : LR blC w (A, m, c) bl ∧ BlOK bl) (_ : (Lit.int .i64 now).wf = true) :
    Calls Try.prog 9 #[.int .u32 first, .int .i64 n, .int .i64 cum, .slice A m c, .int .i64 now] w fun e w' => e = .returned (.bool true) ∧ Below w.heap.size w w' := by
  have KA := keep (awake_any w)
  have HBL := keep hbl
  have HF2 := keep (show 0 ≤ first ∧ first < 4294967296 by
    simp [Lit.wf, IntKind.min, IntKind.max, IntKind.signed, IntKind.bits] at hf
    omega)
  clear hbl hf
  by_cases hbig : 20 < m
  · go_enter Try.func9, Try.ntmps9
    go_wp2_with (go_at_call 10; refine KA.out.mono ?_; rintro e w1 ⟨rfl, hb1⟩; replace hb1 := keep hb1)
    go_ret
    exact ⟨rfl, hb1.out⟩
  · have hm20 : m ≤ 20 := by omega
    obtain ⟨k, hk, hk2⟩ := and31 n
    obtain ⟨kk, hkk, hkk2⟩ := and65535 cum
    have KN := keep (fun W (hb : Below w.heap.size w W) => New_qs (w := w) first HF2.out hb)
    have KP := keep (fun W => piece_lit 3 (by decide) 3 rfl W)
    have hk0 : (0 : Int) ≤ (k : Int) := by omega
    have hk3 : (k : Int) < 32 := by omega
    have HK2 := keep hk2
    clear hk2
    go_enter Try.func9, Try.ntmps9
    go_wp2_with (first
      | (go_at_call 10; refine KA.out.mono ?_; rintro e w1 ⟨rfl, hb1⟩; replace hb1 := keep hb1)
      | (go_at_call 12; refine (KN.out _ hb1.out).mono ?_; rintro e w2 ⟨rfl, hq2⟩))
    obtain ⟨b, hb⟩ : ∃ b, w1.heap.size = b := ⟨_, rfl⟩
    rw [hb] at hq2 ⊢
    have I0 : Hid (TwI w b first 0 (newG b) (newQ first) w2) := keep ⟨hq2.out, rfl, fun e he => (by cases he), (by unfold flr newQ; simp)⟩
    clear hb hq2
    go_loopw [14] (fun i wr => ∃ (j : Nat) (G : Gq) (q : Qm), j ≤ k ∧ i = .int .i64 j ∧ Hid (TwI w b first j G q wr)) (fun i _ => k - (intOf i).toNat)
    case atStart => exact ⟨0, _, _, Nat.zero_le _, rfl, I0⟩
    case round =>
      clear I0
      obtain ⟨j, G, q, hj, rfl, HR⟩ := hrel
      by_cases hlt : j < k
      · go_wp2_with (first
          | (go_at_call 29; refine (KP.out _).mono ?_; rintro e w3 ⟨rfl, hz3, _, hb3⟩
             have KU := keep (rm_push HR.out.qs hz3.out hb3.out (by decide) (by decide) (by rw [HR.out.ln]; have := HK2.out; omega)))
          | (go_at_call 18; refine KU.out.mono ?_; rintro e w5 ⟨rfl, G', x, mm, H5⟩))
        go_roundw
        case rel =>
          refine ⟨j + 1, G', pushQ q [x] mm (-1) (-1), by omega, by go_num, keep ⟨H5.out.1, ?_, ?_, ?_⟩⟩
          · show (q.es ++ [x]).length = j + 1
            rw [List.length_append, HR.out.ln]
            rfl
          · intro e he
            rcases List.mem_append.1 (show e ∈ q.es ++ [x] from he) with he | he
            · exact HR.out.st e he
            · rw [List.mem_singleton.1 he]
              exact ⟨H5.out.2.1, H5.out.2.2.1, H5.out.2.2.2.2.2.1⟩
          · rw [push_flr]
            exact HR.out.fl
        case measure => simp [intOf]; omega
      · obtain rfl : k = j := by omega
        have KT := keep (Take_qs HR.out.qs 0 1048576 (by decide))
        have hp1 := tw_take HR.out.st (by rw [HR.out.ln]; have := HK2.out; omega)
        have HP1 := keep hp1
        obtain ⟨r, hr⟩ : ∃ r : Nat, kk % (k + 1) = r := ⟨_, rfl⟩
        have hrem : Int.tmod (kk : Int) ((k : Int) + 1) = (r : Int) := by
          rw [← hr]
          have h1 : ((k : Int) + 1) = ((k + 1 : Nat) : Int) := by omega
          rw [h1]
          exact (Int.ofNat_tmod kk (k + 1)).symm
        have hrk : r ≤ k := by
          rw [← hr]
          have h1 : kk % (k + 1) < k + 1 := Nat.mod_lt _ (Nat.succ_pos k)
          omega
        have hr0 : (0 : Int) ≤ (r : Int) := by omega
        have hr3 : (r : Int) < 32 := by have := HK2.out; omega
        have hkk0 : (0 : Int) ≤ (kk : Int) := by omega
        have hkk3 : (kk : Int) < 65536 := by omega
        have HRK := keep hrk
        clear hr hp1 hrk hlt hj hkk2
        go_wp2_with (first
          | (go_at_call 19; refine KT.out.mono ?_; rintro e w6 ⟨⟨t1, t2, t3⟩, ys, rfl, H6⟩)
          | (go_at_call 20; refine (bounded_any _ _).mono ?_; rintro e w' ⟨⟨z, rfl⟩, rfl⟩))
        obtain ⟨c0, hc0⟩ : ∃ c0, (first - 1 + (r : Int)) % 4294967296 = c0 := ⟨_, rfl⟩
        have hc1 : 0 ≤ c0 ∧ c0 < 4294967296 := by omega
        have hq1l : (tkQ q 0 1048576).es.length = k := HP1.out.2.trans HR.out.ln
        obtain ⟨q2, by_, f, hA⟩ := tw_all (q1 := tkQ q 0 1048576) (c := c0) bl HP1.out.1 hq1l (by have := HK2.out; omega) HRK.out ((tk_flr HP1.out.2).trans HR.out.fl) (by omega)
        have hA0 := hA.sm
        have hAW : InF (fun k => k < w.heap.size) A ∨ bl = [] := by
          by_cases hb0 : bl = []
          · exact .inr hb0
          · left
            intro a ea
            have hne : flatF blC bl ≠ [] := by
              intro h0
              have h1 := flatF_len blC_len bl
              rw [h0] at h1
              have : bl.length ≠ 0 := fun h => hb0 (List.eq_nil_of_length_eq_zero h)
              simp at h1
              omega
            obtain ⟨b5, o5, e1, e2, _⟩ := HBL.out.1.2.2 hne
            dsimp only at e1
            rw [ea] at e1
            injection e1 with e1
            rw [e1]
            exact e2
        have KLR : ∀ W, Below w.heap.size w W → LR blC W (A, m, c) bl := fun W hb => lr_apart (S := fun _ => False) HBL.out.1 ⟨hb.os, hb.tape, hb.output, hb.size, fun i hi _ => hb.block i hi⟩ (hAW.imp (fun h a ea hc => hc) id)
        have hACK : ∀ (G1 : Gq) (q3 q4 : Qm) (W : World) (z : Int), QS w b G1 q3 W → reachedB q3 c0 = true → ackQ q3 c0 bl = q4 → Calls Try.prog 23 #[.pointer (some ⟨b, 0, none⟩), .int .u32 c0, .slice A m c, .int .i64 z] W fun e w' => e = .returned (ackOut (ackR q3 c0 bl z) true) ∧ ∃ G', Hid (QS w b G' q4 w' ∧ Part G1.O W w') := fun G1 q3 q4 W z h1 h2 h3 => by
          subst h3
          refine (Ack_qs h1 c0 z hc1 (A, m, c) bl (KLR W h1.bl) (hAW.imp (fun h a ea => .inr (h a ea)) id) (by show m ≤ 1000000; omega) HBL.out.2 h2).mono ?_
          rintro e w' ⟨rfl, hh⟩
          exact ⟨rfl, _, hh⟩
        have KA1 := keep (fun z => (hACK _ _ _ w6 z H6.out.2 hA.re hA.eq).mono (fun e w' hh => show ∃ sa lo mo G', e = .returned (.tuple #[.agg #[.int .i64 (by_ : Int), .int .i64 sa, .bool lo, .bool mo], .bool true]) ∧ Hid (QS w b G' q2 w') from by
          obtain ⟨rfl, G', h1⟩ := hh
          refine ⟨(ackR (tkQ q 0 1048576) c0 bl z).sa, (ackR (tkQ q 0 1048576) c0 bl z).lo, (ackR (tkQ q 0 1048576) c0 bl z).mo, G', ?_, keep h1.out.1⟩
          unfold ackOut
          rw [hA.by1 z]))
        have KA2 := keep (fun (G1 : Gq) (W : World) (z : Int) (h1 : QS w b G1 q2 W) => (hACK G1 q2 q2 W z h1 (tw_again hA.p2 hA.fl z).1 (ackQ_same (tw_again hA.p2 hA.fl z).2.2)).mono (fun e w' hh => show e = .returned (.tuple #[.agg #[.int .i64 0, .int .i64 (-1), .bool false, .bool false], .bool true]) ∧ ∃ G', Hid (QS w b G' q2 w' ∧ Part G1.O W w') from by
          obtain ⟨rfl, G', h2⟩ := hh
          refine ⟨?_, G', h2⟩
          rw [(tw_again hA.p2 hA.fl z).2.1]
          rfl))
        have HA := keep hA
        obtain ⟨ln, hln⟩ : ∃ ln, q2.es.length = ln := ⟨_, rfl⟩
        have HLN := keep hln
        have hs : (by_ : Int) + (f : Int) = 3 * (k : Int) := by omega
        have hs1 : (0 : Int) ≤ (by_ : Int) := by omega
        have hs2 : (by_ : Int) ≤ 100 := by have := HK2.out; omega
        have hs3 : (0 : Int) ≤ (f : Int) := by omega
        have hs4 : (f : Int) ≤ 100 := by have := HK2.out; omega
        rw [hc0]
        clear hA hAW KLR hACK hA0 hq1l hc1 hc0 hln
        refine (KA1.out _).mono ?_
        rintro e w7 ⟨sa, lo, mo, G1, rfl, H7⟩
        dsimp only
        have hR7 := keep (show RsB (w7.alloc (.cells #[.int .i64 (by_ : Int), .int .i64 sa, .bool lo, .bool mo] 54)) w7.heap.size (by_ : Int) sa lo mo from heap_alloc_new w7 _)
        have H8 := keep (H7.out.step (below_lay w7 (.cells #[.int .i64 (by_ : Int), .int .i64 sa, .bool lo, .bool mo] 54)))
        go_wp2_with (first
          | (go_at_call 16; refine (Floor_qs H8.out HA.out.fl).mono ?_; rintro e w8 ⟨rfl, hb8⟩)
          | (go_at_call 17; refine (Len_qs (H8.out.step hb8.out) HLN.out).mono ?_; rintro e w' ⟨rfl, rfl⟩)
          | (go_at_call 27; refine (Flying_qs (H8.out.step hb8.out) HA.out.oc).mono ?_; rintro e w9 ⟨rfl, hb9⟩)
          | (go_at_call 20; refine (bounded_any _ _).mono ?_; rintro e w' ⟨⟨z2, rfl⟩, rfl⟩))
        have H9 := keep ((H8.out.step hb8.out).step hb9.out)
        have hR9 := (hR7.out.step hb8.out).step hb9.out
        have hno : ¬ G1.O w7.heap.size := fun ho => absurd (H7.out.qa.olt _ ho) (Nat.lt_irrefl _)
        refine (KA2.out G1 w9 z2 H9.out).mono ?_
        rintro e w10 ⟨rfl, G2, H10⟩
        dsimp only
        have hR10 := hR9.part H10.out.2 hno
        have hR11 := keep (hR10.step (below_lay w10 (.cells #[.int .i64 0, .int .i64 (-1), .bool false, .bool false] 54)))
        have hS11 := keep (show RsB (w10.alloc (.cells #[.int .i64 0, .int .i64 (-1), .bool false, .bool false] 54)) w10.heap.size 0 (-1) false false from heap_alloc_new w10 _)
        have H11 := keep (H10.out.1.step (below_lay w10 (.cells #[.int .i64 0, .int .i64 (-1), .bool false, .bool false] 54)))
        clear hR9 hR10 hno hR7 H8
        go_wp2_with (first
          | (go_at_call 16; refine (Floor_qs H11.out HA.out.fl).mono ?_; rintro e w12 ⟨rfl, hb12⟩
             obtain ⟨x0, x1, x2, x3⟩ := (hS11.out.step hb12.out).cells)
          | (go_at_call 17; refine (Len_qs (H11.out.step hb12.out) HLN.out).mono ?_; rintro e w' ⟨rfl, rfl⟩)
          | (go_at_call 27; refine (Flying_qs (H11.out.step hb12.out) HA.out.oc).mono ?_; rintro e w13 ⟨rfl, hb13⟩
             obtain ⟨y0, y1, y2, y3⟩ := ((hR11.out.step hb12.out).step hb13.out).cells))
        all_goals go_ret
        all_goals exact ⟨rfl, ((H11.out.step hb12.out).step hb13.out).bl⟩
end Go.Proofs.Ytbkepkiaabeliaa
