/- Law 18: its small functions; awake. -/
import Derived.Test.YtapaiknghnbfmaaDoorD9
namespace Go.Proofs.YtapaiknghnbfmaaDoor
open Go.RowKit
set_option linter.unusedVariables false

theorem Ask_any {w W : World} {b g : Nat} {ev : Bool} {l : List Ch} (h : TB w b g ev l W) (o : OV) (ho : o.Ok) (hT : Tabs W) : Calls Tryd.prog 30 #[.pointer (some ⟨b, 0, none⟩), .agg o.cells.toArray] W (AskP w b g ev l o W) := by
  by_cases he : encE o = 0
  · exact Ask_ok h o ho hT he
  · exact Ask_bad h o ho hT he
def oA : OV := ⟨0, 0, 0, ⟨#[97]⟩, ⟨#[]⟩⟩
def oX : OV := ⟨0, 0, 0, ⟨#[120]⟩, ⟨#[]⟩⟩
theorem oA_ok : oA.Ok := ⟨by decide, by decide, by decide, by decide, by decide⟩
theorem oX_ok : oX.Ok := ⟨by decide, by decide, by decide, by decide, by decide⟩
theorem encE_oA : encE oA = 0 := by kernel_rfl
theorem encE_oX : encE oX = 0 := by kernel_rfl
theorem encD_oA : encD oA = [3, 0, 0, 0, 0, 0, 0, 0, 0, 1, 0, 0, 97] := by kernel_rfl
theorem encB_oX : encB oX = [3, 0, 0, 0, 0, 0, 0, 0, 0, 1, 0, 0, 120] := by kernel_rfl
theorem decE_A : decE [3, 0, 0, 0, 0, 0, 0, 0, 0, 1, 0, 0, 97] = 0 := by kernel_rfl
theorem decO_A : decO [3, 0, 0, 0, 0, 0, 0, 0, 0, 1, 0, 0, 97] = oA := by kernel_rfl
theorem ask_oX : askE true (List.replicate 4 chZ) oX = 0 ∧ askS true (List.replicate 4 chZ) oX = 0 ∧ askD true (List.replicate 4 chZ) oX = [3, 0, 0, 0, 0, 0, 0, 0, 0, 1, 0, 0, 120] ∧ (chAt (askL true (List.replicate 4 chZ) oX) 0).st = 1 := ⟨by kernel_rfl, by kernel_rfl, by kernel_rfl, by kernel_rfl⟩
theorem same_yes (A B : Option Addr) (n m c d : Nat) (bs : List UInt8) (w : World) (ha : BS w A n c bs) (hb : BS w B m d bs) :
    Calls Tryd.prog 15 #[.slice A n c, .slice B m d] w fun e w' => e = .returned (.bool true) ∧ w = w' := by
  have := same_ret A B n m c d bs bs w ha hb
  rw [show (bs == bs) = true by simp] at this
  exact this
theorem bs_past {W0 W W' : World} {g : Nat} {A : Option Addr} {n c : Nat} {bs : List UInt8} (h0 : BS W0 A n c bs) (h : BS W A n c bs) (hp : Part (fun i => i = g) W W') (hg : W0.heap.size ≤ g) : BS W' A n c bs := by
  refine ⟨h.1, h.2.1, fun hx => ?_⟩
  obtain ⟨b0, o0, e0, hlt0, _⟩ := h0.2.2 hx
  exact hp.sr h.2.2 (fun a ha hc => by
    rw [e0] at ha
    injection ha with ha
    subst ha
    have hc' : b0 = g := hc
    omega) hx
theorem ob_past {W W' : World} {g k : Nat} {o : OV} (h : OB W k o) (hk : k < W.heap.size) (hp : Part (fun i => i = g) W W') (hne : k ≠ g) : OB W' k o := by
  have e : ∀ i, W'.cell? ⟨k, i, none⟩ = W.cell? ⟨k, i, none⟩ := fun i => World.cell?_of_block (w := W) (a := ⟨k, i, none⟩) (hp.block k hk hne)
  exact ⟨(e 0).trans h.c0, (e 1).trans h.c1, (e 2).trans h.c2, (e 3).trans h.c3, (e 4).trans h.c4⟩
set_option maxHeartbeats 8000000 in
theorem awake_any (w : World) (hT : Tabs w) : Calls Tryd.prog 11 #[] w fun e w' => e = .returned (.bool true) ∧ Below w.heap.size w w' := by
  have K1 := encode_any oA oA_ok w hT
  unfold EncP RetF at K1
  rw [encE_oA, encD_oA] at K1
  have K1 := keep K1
  have K2 := keep (fun A n c W (hb : Below w.heap.size w W) (h : BS W A n c [3, 0, 0, 0, 0, 0, 0, 0, 0, 1, 0, 0, 97]) => decode_any A n c _ W h (by rw [h.len]; decide) (hT.step hb))
  unfold DecP at K2
  rw [decE_A, decO_A] at K2
  have K3 := fun W => wrap_any true none 0 0 [] W (BS.nil W) (by decide)
  rw [show wrapP true [] = 56 from rfl, show wrapD [] = [0] from rfl] at K3
  have K3 := keep K3
  have K4 := fun A W (h : BS W A 1 1 [7]) => unwrap_any 53 A 1 1 [7] W h (by decide)
  rw [show unT 53 [7] = false from rfl, show unD 53 [7] = [7] from rfl, show unK 53 [7] = true from rfl] at K4
  have K4 := keep K4
  have K5 := fun W (hb : Below w.heap.size w W) => new_tb true 4 hb
  rw [show clampN 4 = 4 from rfl] at K5
  have HA := ask_oX
  obtain ⟨L4, hL4⟩ : ∃ L, List.replicate 4 chZ = L := ⟨_, rfl⟩
  rw [hL4] at K5 HA
  have K5 := keep K5
  have HA := keep HA
  clear hL4
  have K6 := keep (show ∀ b g W, TB w b g true L4 W → Below w.heap.size w W → Calls Tryd.prog 30 #[.pointer (some ⟨b, 0, none⟩), .agg #[.int .u8 0, .int .u16 0, .int .u32 0, .string ⟨#[120]⟩, .string ⟨#[]⟩]] W (AskP w b g true L4 oX W) from fun b g W h hb => Ask_any h oX oX_ok (hT.step hb))
  dsimp only [OV.cells, oA] at K1 K2
  clear hT
  go_enter Tryd.func11, Tryd.ntmps11
  go_wp2_with (first
    | (go_at_call 12; refine K1.out.mono ?_; rintro e w1 ⟨A1, n1, c1, rfl, hs1, hb1, hf1⟩; have B1 := keep hb1; have HS1 := keep hs1; clear hs1 hb1 hf1)
    | (go_at_call 16; refine (K2.out _ _ _ _ B1.out HS1.out).mono ?_; rintro e w2 ⟨rfl, hb2⟩
       have B2 := keep (up B1.out hb2)
       have B2a := keep (up B2.out (below_lay w2 (.cells oA.cells.toArray 25)))
       have O2 := keep (OB.laid w2 oA 25)
       have LT2 := keep (show w2.heap.size < (w2.alloc (.cells oA.cells.toArray 25)).heap.size by simp)
       have HS2 := keep ((HS1.out.step hb2).step (below_lay w2 (.cells oA.cells.toArray 25)))
       clear hb2)
    | (go_at_call 19; refine (K3.out _).mono ?_; rintro e w3 ⟨A3, n3, c3, rfl, hs3, hb3⟩
       have B3 := keep (up B2a.out hb3)
       have O3 := keep (O2.out.step LT2.out hb3)
       have HS3 := keep (HS2.out.step hb3)
       have HW3 := keep hs3
       have LT3 := keep (Nat.lt_of_lt_of_le LT2.out hb3.size)
       have L7 := keep (below_lay w3 (.cells #[.int .u8 7] 5))
       have H7 := keep (BS.laid w3 5 [7] (by simp))
       clear hs3 hb3)
    | (go_at_call 20; refine (K4.out _ _ H7.out).mono ?_; rintro e w4 ⟨A4, n4, c4, rfl, hs4, hb4⟩
       have B4 := keep (up (up B3.out L7.out) hb4)
       have O4 := keep (O3.out.step LT3.out (up L7.out hb4))
       have HS4 := keep (HS3.out.step (up L7.out hb4))
       have HW4 := keep (HW3.out.step (up L7.out hb4))
       have HU4 := keep hs4
       have LT4 := keep (Nat.lt_of_lt_of_le LT3.out (up L7.out hb4).size)
       clear hs4 hb4)
    | (go_at_call 22; refine (K5.out _ B4.out).mono ?_; rintro e w5 ⟨b, rfl, g, H5⟩
       have O5 := keep (O4.out.step LT4.out H5.out.2.1)
       have HS5 := keep (HS4.out.step H5.out.2.1)
       have HW5 := keep (HW4.out.step H5.out.2.1)
       have HU5 := keep (HU4.out.step H5.out.2.1)
       have LT5 := keep (Nat.lt_of_lt_of_le LT4.out H5.out.2.1.size))
    | (go_at_call 30; refine (K6.out _ _ _ H5.out.1 H5.out.1.bl).mono ?_; rintro e w6 ⟨⟨A6, n6, c6, he6, hs6⟩, ht6, hp6⟩
       rw [HA.out.1, HA.out.2.1] at he6
       rw [HA.out.2.2.1] at hs6
       subst he6
       have hn6 : n6 = 13 := hs6.out.len
       subst hn6
       have B6 := keep (H5.out.1.bl.trans (hp6.out.below H5.out.1.bl.size fun i hi => by rw [hi]; exact H5.out.1.log))
       have HF := keep (show ∀ W, Below w6.heap.size w6 W → BS W A1 n1 c1 [3, 0, 0, 0, 0, 0, 0, 0, 0, 1, 0, 0, 97] ∧ BS W A3 n3 c3 [0] ∧ BS W A4 n4 c4 [7] ∧ OB W w2.heap.size oA ∧ TB w b g true (askL true L4 oX) W ∧ Below w.heap.size w W from fun W hb =>
         ⟨(bs_past HS4.out HS5.out hp6.out H5.out.2.2.2).step hb, (bs_past HW4.out HW5.out hp6.out H5.out.2.2.2).step hb, (bs_past HU4.out HU5.out hp6.out H5.out.2.2.2).step hb, (ob_past O5.out LT5.out hp6.out (by have := LT4.out; have := H5.out.2.2.2; omega)).step (Nat.lt_of_lt_of_le LT5.out hp6.out.size) hb, ht6.out.step hb, B6.out.trans (hb.mono B6.out.size)⟩)
       have Y1 := keep (below_lay w6 (.cells #[.int .u8 3, .int .u8 0, .int .u8 0, .int .u8 0, .int .u8 0, .int .u8 0, .int .u8 0, .int .u8 0, .int .u8 0, .int .u8 1, .int .u8 0, .int .u8 0, .int .u8 97] 5))
       have Y2 := keep (up Y1.out (below_lay _ (.cells #[.int .u8 0] 5)))
       have Y3 := keep (up Y2.out (below_lay _ (.cells #[.int .u8 7] 5)))
       have p1 := (HF.out _ Y1.out).2.2.2.1.c3
       dsimp only [oA] at p1
       have KS := keep (State_any (HF.out _ Y3.out).2.2.2.2.1 0 (by decide))
       rw [HA.out.2.2.2] at KS
       have KS1 := keep (show Calls Tryd.prog 15 #[.slice A1 n1 c1, .slice (some ⟨w6.heap.size, 0, none⟩) 13 13] (w6.alloc (.cells #[.int .u8 3, .int .u8 0, .int .u8 0, .int .u8 0, .int .u8 0, .int .u8 0, .int .u8 0, .int .u8 0, .int .u8 0, .int .u8 1, .int .u8 0, .int .u8 0, .int .u8 97] 5)) (fun e w' => e = .returned (.bool true) ∧ (w6.alloc (.cells #[.int .u8 3, .int .u8 0, .int .u8 0, .int .u8 0, .int .u8 0, .int .u8 0, .int .u8 0, .int .u8 0, .int .u8 0, .int .u8 1, .int .u8 0, .int .u8 0, .int .u8 97] 5)) = w') from by
         have h1 := BS.laid w6 5 [3, 0, 0, 0, 0, 0, 0, 0, 0, 1, 0, 0, 97] (by simp)
         exact same_yes A1 _ n1 13 c1 13 _ _ (HF.out _ Y1.out).1 h1)
       have KS2 := keep (show Calls Tryd.prog 15 #[.slice A3 n3 c3, .slice (some ⟨w6.heap.size + 1, 0, none⟩) 1 1] ((w6.alloc (.cells #[.int .u8 3, .int .u8 0, .int .u8 0, .int .u8 0, .int .u8 0, .int .u8 0, .int .u8 0, .int .u8 0, .int .u8 0, .int .u8 1, .int .u8 0, .int .u8 0, .int .u8 97] 5)).alloc (.cells #[.int .u8 0] 5)) (fun e w' => e = .returned (.bool true) ∧ ((w6.alloc (.cells #[.int .u8 3, .int .u8 0, .int .u8 0, .int .u8 0, .int .u8 0, .int .u8 0, .int .u8 0, .int .u8 0, .int .u8 0, .int .u8 1, .int .u8 0, .int .u8 0, .int .u8 97] 5)).alloc (.cells #[.int .u8 0] 5)) = w') from by
         have h1 := BS.laid (w6.alloc (.cells #[.int .u8 3, .int .u8 0, .int .u8 0, .int .u8 0, .int .u8 0, .int .u8 0, .int .u8 0, .int .u8 0, .int .u8 0, .int .u8 1, .int .u8 0, .int .u8 0, .int .u8 97] 5)) 5 [0] (by simp)
         rw [show (w6.alloc (.cells #[.int .u8 3, .int .u8 0, .int .u8 0, .int .u8 0, .int .u8 0, .int .u8 0, .int .u8 0, .int .u8 0, .int .u8 0, .int .u8 1, .int .u8 0, .int .u8 0, .int .u8 97] 5)).heap.size = w6.heap.size + 1 by simp] at h1
         exact same_yes A3 _ n3 1 c3 1 _ _ (HF.out _ Y2.out).2.1 h1)
       have KS3 := keep (show Calls Tryd.prog 15 #[.slice A4 n4 c4, .slice (some ⟨w6.heap.size + 2, 0, none⟩) 1 1] (((w6.alloc (.cells #[.int .u8 3, .int .u8 0, .int .u8 0, .int .u8 0, .int .u8 0, .int .u8 0, .int .u8 0, .int .u8 0, .int .u8 0, .int .u8 1, .int .u8 0, .int .u8 0, .int .u8 97] 5)).alloc (.cells #[.int .u8 0] 5)).alloc (.cells #[.int .u8 7] 5)) (fun e w' => e = .returned (.bool true) ∧ (((w6.alloc (.cells #[.int .u8 3, .int .u8 0, .int .u8 0, .int .u8 0, .int .u8 0, .int .u8 0, .int .u8 0, .int .u8 0, .int .u8 0, .int .u8 1, .int .u8 0, .int .u8 0, .int .u8 97] 5)).alloc (.cells #[.int .u8 0] 5)).alloc (.cells #[.int .u8 7] 5)) = w') from by
         have h1 := BS.laid ((w6.alloc (.cells #[.int .u8 3, .int .u8 0, .int .u8 0, .int .u8 0, .int .u8 0, .int .u8 0, .int .u8 0, .int .u8 0, .int .u8 0, .int .u8 1, .int .u8 0, .int .u8 0, .int .u8 97] 5)).alloc (.cells #[.int .u8 0] 5)) 5 [7] (by simp)
         rw [show ((w6.alloc (.cells #[.int .u8 3, .int .u8 0, .int .u8 0, .int .u8 0, .int .u8 0, .int .u8 0, .int .u8 0, .int .u8 0, .int .u8 0, .int .u8 1, .int .u8 0, .int .u8 0, .int .u8 97] 5)).alloc (.cells #[.int .u8 0] 5)).heap.size = w6.heap.size + 2 by simp] at h1
         exact same_yes A4 _ n4 1 c4 1 _ _ (HF.out _ Y3.out).2.2.1 h1))
    | (go_at_call 15; first
       | (with_reducible refine KS1.out.mono ?_; rintro e w' ⟨rfl, rfl⟩)
       | (with_reducible refine KS2.out.mono ?_; rintro e w' ⟨rfl, rfl⟩)
       | (with_reducible refine KS3.out.mono ?_; rintro e w' ⟨rfl, rfl⟩))
    | (go_at_call 26; refine KS.out.mono ?_; rintro e w' ⟨rfl, rfl⟩))
  go_ret
  exact ⟨rfl, (HF.out _ Y3.out).2.2.2.2.2⟩
end Go.Proofs.YtapaiknghnbfmaaDoor
