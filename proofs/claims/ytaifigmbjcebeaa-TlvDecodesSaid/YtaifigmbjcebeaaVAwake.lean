/- What is done with what is not known; the document's examples hold: awake answers true. -/
import Derived.Test.YtaifigmbjcebeaaVSame
import Derived.Test.YtaifigmbjcebeaaVDec
namespace Go.Proofs.Ytaifigmbjcebeaa
open Go.RowKit
set_option linter.unusedVariables false

theorem and_two : ∀ n : Fin 256, bits .and .u8 (n.1 : Int) 128 = (if n.1 < 128 then 0 else 128) ∧ bits .and .u8 (n.1 : Int) 64 = (if n.1 % 128 < 64 then 0 else 64) := by decide +kernel
def stopA (k : Nat) : Bool := decide (k < 128)
def tellA (k : Nat) : Bool := decide (64 ≤ k % 128)
theorem chunkAction_any (k : Nat) (hk : k < 256) (w : World) :
    Calls Try.prog 22 #[.int .u8 (k : Int)] w fun e w' => e = .returned (.tuple #[.bool (stopA k), .bool (tellA k)]) ∧ w = w' := by
  obtain ⟨h1, h2⟩ := and_two ⟨k, hk⟩
  simp only at h1 h2
  unfold stopA tellA
  by_cases a : k < 128
  · by_cases b : k % 128 < 64
    · rw [if_pos a] at h1
      rw [if_pos b] at h2
      rw [decide_eq_true a, decide_eq_false (by omega)]
      clear a b hk
      go_enter Try.func22, Try.ntmps22
      go_wp2_with fail
      go_ret2
      exact ⟨rfl, rfl⟩
    · rw [if_pos a] at h1
      rw [if_neg b] at h2
      rw [decide_eq_true a, decide_eq_true (by omega)]
      clear a b hk
      go_enter Try.func22, Try.ntmps22
      go_wp2_with fail
      go_ret2
      exact ⟨rfl, rfl⟩
  · by_cases b : k % 128 < 64
    · rw [if_neg a] at h1
      rw [if_pos b] at h2
      rw [decide_eq_false a, decide_eq_false (by omega)]
      clear a b hk
      go_enter Try.func22, Try.ntmps22
      go_wp2_with fail
      go_ret2
      exact ⟨rfl, rfl⟩
    · rw [if_neg a] at h1
      rw [if_neg b] at h2
      rw [decide_eq_false a, decide_eq_true (by omega)]
      clear a b hk
      go_enter Try.func22, Try.ntmps22
      go_wp2_with fail
      go_ret2
      exact ⟨rfl, rfl⟩

theorem action_any (k : Nat) (hk : k < 65536) (w : World) :
    Calls Try.prog 20 #[.int .u16 (k : Int)] w fun e w' => e = .returned (.tuple #[.bool (stopA (k / 256)), .bool (tellA (k / 256))]) ∧ w = w' := by
  have K := chunkAction_any (k / 256) (by omega) w
  generalize stopA (k / 256) = x at K ⊢
  generalize tellA (k / 256) = y at K ⊢
  have hq : ((k / 256 : Nat) : Int) = (k : Int) / 256 := by omega
  rw [hq] at K
  replace K := keep K
  clear hq
  go_enter Try.func20, Try.ntmps20
  go_wp2_with (go_at_call 22; refine K.out.mono ?_; rintro e w' ⟨rfl, rfl⟩)
  go_ret2
  exact ⟨rfl, rfl⟩

theorem same_eq (A B : Option Addr) (n m c d : Nat) (bs ds : List UInt8) (w : World) (ha : BS w A n c bs) (hb : BS w B m d ds) (h : bs = ds) :
    Calls Try.prog 14 #[.slice A n c, .slice B m d] w fun e w' => e = .returned (.bool true) ∧ w = w' := by
  subst h
  exact (same_ret A B n m c d bs bs w ha hb).mono fun e w' ⟨he, hw⟩ => ⟨by simpa using he, hw⟩

def exL : List Pm := [(7, [9])]
theorem exE : encL exL = [0, 7, 0, 5, 9, 0, 0, 0] := by decide
theorem exD : decL 32 [0, 7, 0, 5, 9, 0, 0, 0] = .ok exL := by
  rw [← exE]
  exact decL_enc exL 32 (by intro p hp; simp [exL] at hp; subst hp; exact ⟨by decide, by decide, by decide⟩) (by decide)

theorem PS.drewN {w : World} {A : Option Addr} {n c : Nat} {l : List PX} (h : PS w A n c l) (q : Nat) : PS (w.drewN q) A n c l := h
theorem below_drew' {a b : World} {B : Nat} (h : Below B a b) (q : Nat) : Below B a (b.drewN q) := ⟨h.os, h.tape, h.output, h.size, h.block⟩
theorem awake_any (w : World) : Calls Try.prog 10 #[] w fun e w' => e = .returned (.bool true) ∧ Below w.heap.size w w' := by
  have l0 := below_lay w (.cells #[.int .u8 9] 5)
  have v0 := BS.laid w 5 [9] (by simp)
  have l1 := below_lay (w.alloc (.cells #[.int .u8 9] 5)) (.cells #[.int .u16 7, .slice (some ⟨w.heap.size, 0, none⟩) 1 1] 44)
  have v1 := v0.step l1
  have hP : PS ((w.alloc (.cells #[.int .u8 9] 5)).alloc (.cells #[.int .u16 7, .slice (some ⟨w.heap.size, 0, none⟩) 1 1] 44)) (some ⟨w.heap.size + 1, 0, none⟩) 1 1 [(7, some ⟨w.heap.size, 0, none⟩, 1, 1, [9])] := by
    have := SR.row (heap_alloc_new (w.alloc (.cells #[.int .u8 9] 5)) (.cells #[.int .u16 7, .slice (some ⟨w.heap.size, 0, none⟩) 1 1] 44))
    rw [World.size_alloc] at this
    exact ⟨rfl, Nat.le_refl _, this, fun x hx => by rw [List.mem_singleton.1 hx]; exact ⟨(by decide : (0 : Int) ≤ 7), (by decide : (7 : Int) < 65536), v1⟩⟩
  have HP := keep hP
  have K0 := keep (encode_any _ 1 1 _ _ hP)
  have HB := keep (up l0 l1)
  clear l0 l1 v0 v1 hP
  go_enter Try.func10, Try.ntmps10
  go_wp2_with fail
  refine K0.out.mono ?_
  rintro e w1 ⟨hb1, ⟨ht, _⟩ | ⟨_, A1, n1, c1, rfl, hs1⟩⟩
  · exact absurd (show tooL exL = true from ht) (by decide)
  · replace hs1 : BS w1 A1 n1 c1 (encL exL) := hs1
    rw [exE] at hs1
    have hn1 : n1 = 8 := hs1.len
    subst hn1
    have K1 := keep (decode_any A1 8 c1 _ w1 hs1 (by omega))
    have HP1 := keep (HP.out.step hb1)
    have HB1 := keep (up HB.out hb1)
    have HS1 := keep hs1
    clear K0 HP HB hb1 hs1
    go_wp2_with fail
    refine K1.out.mono ?_
    rintro e w2 ⟨hb2, ⟨x, _, hx, _⟩ | ⟨A2, n2, c2, l2, hd, rfl, hs2⟩⟩
    · rw [exD] at hx
      cases hx
    · rw [exD] at hd
      injection hd with hd
      have HP2 := keep (HP1.out.step hb2)
      have HB2 := keep (up HB1.out hb2)
      have HS2 := keep (HS1.out.step hb2)
      have HQ2 := keep hs2
      have HD := keep hd
      have KA := action_any 49152 (by omega) w2
      rw [show stopA (49152 / 256) = false by decide, show tellA (49152 / 256) = true by decide] at KA
      replace KA := keep KA
      have KC := chunkAction_any 64 (by omega) w2
      rw [show stopA 64 = true by decide, show tellA 64 = true by decide] at KC
      replace KC := keep KC
      have l3 := below_lay w2 (.cells #[.int .u8 0, .int .u8 7, .int .u8 0, .int .u8 5, .int .u8 9, .int .u8 0, .int .u8 0, .int .u8 0] 5)
      have KS := keep (same_eq A1 _ 8 8 c1 8 _ _ _ (HS2.out.step l3) (BS.laid w2 5 [0, 7, 0, 5, 9, 0, 0, 0] (by simp)) (by decide))
      have KQ := same_ret6 _ A2 _ n2 1 c2 1 l2 _ (HQ2.out.step l3) (HP2.out.step l3) (by have := HQ2.out.len; have h2 := congrArg List.length HD.out; simp [exL] at h2; omega)
      have hme : l2.map pm = List.map pm [((7 : Int), some (⟨w.heap.size, 0, none⟩ : Addr), 1, 1, [(9 : UInt8)])] := HD.out.symm
      rw [decide_eq_true hme] at KQ
      replace KQ := keep KQ
      clear hme
      have HB3 := keep (up HB2.out l3)
      have HP3 := keep (HP2.out.step l3)
      clear K1 HP1 HB1 HS1 hb2 hs2 hd l3
      go_wp2_with (first
        | (go_at_call 20; refine KA.out.mono ?_; rintro e w3 ⟨rfl, rfl⟩; clear KA)
        | (go_at_call 22; refine KC.out.mono ?_; rintro e w3 ⟨rfl, rfl⟩; clear KC)
        | (go_at_call 14; refine KS.out.mono ?_; rintro e w3 ⟨rfl, rfl⟩; clear KS)
        | (go_at_call 19; refine KQ.out.mono ?_; rintro e w3 ⟨rfl, q, rfl⟩; clear KQ
           have KF := find_any _ 1 1 _ 7 _ (HP3.out.drewN q) (by decide)
           rw [show findL (List.map pm [((7 : Int), some (⟨w.heap.size, 0, none⟩ : Addr), 1, 1, [(9 : UInt8)])]) 7 = 0 from (by decide : findL exL 7 = 0)] at KF
           replace KF := keep KF)
        | (go_at_call 15; refine KG.out.mono ?_; rintro e w5 ⟨rfl, hb5⟩; clear KG; replace hb5 := keep hb5)
        | (go_at_call 15; refine KF.out.mono ?_; rintro e w4 ⟨rfl, hb4⟩; clear KF
           have HB4 := keep ((below_drew' HB3.out q).trans (hb4.mono HB3.out.size))
           have KG := find_any _ 1 1 _ 8 _ ((HP3.out.drewN q).step hb4) (by decide)
           rw [show findL (List.map pm [((7 : Int), some (⟨w.heap.size, 0, none⟩ : Addr), 1, 1, [(9 : UInt8)])]) 8 = -1 from (by decide : findL exL 8 = -1)] at KG
           replace KG := keep KG
           clear hb4))
      go_ret
      exact ⟨rfl, HB4.out.trans (hb5.out.mono HB4.out.size)⟩
end Go.Proofs.Ytaifigmbjcebeaa
