/- Package split: the pieces of octets, told by a range over a function: what its iterator hands on. -/
import Derived.Test.YtbfmklbffmodjaaPc4
import Derived.Test.YtbfmklbffmodjaaRange
import Derived.Shelf.RegionOpen
import Derived.OwnWalkIn
import Derived.TacticsInMore
import Derived.LoopNIn
import Derived.LoopIn
import Derived.RegionIn
namespace Go.Proofs.Ytbfmklbffmodjaa
open Go.RowKit
attribute [local go_sem] Oper.semAt_some
set_option linter.unusedVariables false

/-- Where a piece stands: the flags of its place. -/
def plc (N i : Nat) : Int := (if i = 0 then 2 else 0) + (if i + 1 = N then 1 else 0)
/-- What is handed on: a place, and octets as they lie. -/
abbrev Item := Int × Option Addr × Nat × Nat × List UInt8
abbrev encI (y : Item) : Array Value := #[.int .u8 y.1, .slice y.2.1 y.2.2.1 y.2.2.2.1]
/-- Piece number xs.length of the octets that w held. -/
structure AtHand (w : World) (k : Nat) (bs : List UInt8) (xs : List Item) (y : Item) : Prop where
  lt : xs.length < cnt k bs.length
  pl : y.1 = plc (cnt k bs.length) xs.length
  da : y.2.2.2.2 = piece k bs xs.length
  bs : BS w y.2.1 y.2.2.1 y.2.2.2.1 y.2.2.2.2
/-- What a body keeps: what w had, and the box of the piece's size. -/
def Kp (w : World) (Bm : Nat) (k : Nat) (A B : World) : Prop :=
  (Below w.heap.size w A → Below w.heap.size w B) ∧ (A.cell? ⟨Bm, 0, none⟩ = some (.int .i64 (k : Int)) → B.cell? ⟨Bm, 0, none⟩ = some (.int .i64 (k : Int)))
def lenV (v : Value) : Nat := match v with | .slice _ m _ => m | _ => 0
theorem or_place : bits .or .u8 2 1 = 3 ∧ bits .or .u8 0 1 = 1 := by decide +kernel
theorem pieces_any (A : Option Addr) (n c k : Nat) (w : World) :
    Calls Try.prog 18 #[.slice A n c, .int .i64 (k : Int)] w fun e w' => e = .returned (.func (.func 23) #[] #[.pointer (some ⟨w.heap.size, 0, none⟩), .pointer (some ⟨w.heap.size + 1, 0, none⟩)]) ∧ w' = (w.alloc (.cells #[.slice A n c] 24)).alloc (.cells #[.int .i64 (k : Int)] 3) := by
  go_enter Try.func18, Try.ntmps18
  go_wp2
  go_ret
  exact ⟨rfl, rfl⟩

set_option maxRecDepth 100000 in
set_option maxHeartbeats 1000000 in
theorem pieces1_in (l Bd Bm : Nat) (A : Option Addr) (n c k : Nat) (bs : List UInt8) (w : World) (hbs : BS w A n c bs) (hn : n ≤ 100000) (h0n : 0 < n) (hk : 0 < k) (hk2 : k ≤ 1172) (K : List Item → World → Prop) (W : World) (hW : Below w.heap.size w W)
    (hBd : W.cell? ⟨Bd, 0, none⟩ = some (.slice A n c)) (hBm : W.cell? ⟨Bm, 0, none⟩ = some (.int .i64 (k : Int)))
    (hK : ∀ xs A B, K xs A → Below A.heap.size A B → K xs B)
    (hY : ∀ xs x W1, K xs W1 → AtHand w k bs xs x → YieldAt Fence.wide (2 - 1) Try.prog l (encI x) W1 fun e W' => e = .returned (.bool true) ∧ K (xs ++ [x]) W' ∧ Kp w Bm k W1 W')
    (h0 : K [] W) :
    CallsIn Fence.wide 2 Try.prog 23 #[.func (.yield l) #[] #[], .pointer (some ⟨Bd, 0, none⟩), .pointer (some ⟨Bm, 0, none⟩)] W fun e W' => (∃ v, e = .returned v) ∧ ∃ xs, xs.length = cnt k bs.length ∧ K xs W' := by
  have HLB := keep hbs.len
  have HBS := keep hbs
  have HK := keep hK
  have H0 := keep h0
  have HW := keep hW
  have HY := keep hY
  clear hbs hK h0 hW hY
  refine callsIn_of_wp Try.func23 rfl trivial ?_ rfl
  simp only [Try.ntmps23, List.size_toArray, List.length_cons, List.length_nil, Nat.reduceAdd, Nat.reduceSub, Array.replicate_succ, Array.replicate_zero, List.push_toArray, List.append_toArray, List.nil_append, List.cons_append]
  gi_wp2
  gi_region
  gi_wp2
  gi_loopw [4, 5] (fun pl lf wr => ∃ (i m c' : Nat) (A' : Option Addr) (p : Int) (xs : List Item), pl = .int .u8 p ∧ lf = .slice A' m c' ∧ Hid (p = (if i = 0 then 2 else 0) ∧ i * k < n ∧ m = n - i * k) ∧ Hid (xs.length = i ∧ K xs wr) ∧ Hid (BS w A' m c' (bs.drop (i * k))) ∧ Hid (Below w.heap.size w wr) ∧ wr.cell? ⟨Bm, 0, none⟩ = some (.int .i64 (k : Int)))
    (fun _ lf _ => lenV lf)
  case atStart =>
    exact ⟨0, n, c, A, 2, [], rfl, rfl, keep ⟨rfl, by omega, by omega⟩, keep ⟨rfl, HK.out _ _ _ H0.out (Below.refl _ _).drew⟩, keep (by simpa using HBS.out), keep HW.out.drew, hBm⟩
  case round =>
    obtain ⟨i, m, c', A', p, xs, rfl, rfl, HI, HX, HL, HB, hcm⟩ := hrel
    have hmc := HL.out.cap
    obtain ⟨p1, hor, hp1⟩ : ∃ p1, bits BinOp.or IntKind.u8 p 1 = p1 ∧ p1 = p + 1 := by
      obtain ⟨o1, o2⟩ := or_place
      have := HI.out.1
      by_cases h : i = 0
      · rw [if_pos h] at this; subst this; exact ⟨3, o1, rfl⟩
      · rw [if_neg h] at this; subst this; exact ⟨1, o2, rfl⟩
    by_cases hlt : k < m
    · have hlt' : (k : Int) < (m : Int) := by omega
      have hkc : (k : Int) ≤ (c' : Int) := by omega
      have hk0 : (0 : Int) ≤ (k : Int) := by omega
      have hN : i + 1 < cnt k bs.length := by
        rw [cnt_le hk, Nat.add_mul, Nat.one_mul, ← HLB.out]
        have := HI.out.2.2
        omega
      have hp : p = plc (cnt k bs.length) i := by
        have := HI.out.1
        unfold plc
        rw [if_neg (show ¬ i + 1 = cnt k bs.length by omega), Int.add_zero]
        exact this
      have hT : BS w A' k c' (piece k bs i) := by
        have h1 := HL.out.br.take k
        refine ⟨?_, by omega, h1⟩
        have := piece_len (k := k) (bs := bs) (i := i) (by rw [Nat.add_mul, Nat.one_mul, ← HLB.out]; have := HI.out.2.2; omega)
        exact this.symm
      obtain ⟨fn, tmps, assign, body, hy, hR⟩ := HY.out xs (p, A', k, c', piece k bs i) wr HX.out.2 ⟨by rw [HX.out.1]; omega, by rw [HX.out.1]; exact hp, by rw [HX.out.1], hT⟩
      replace hy : (Instr.yield l #[.int .u8 p, .slice A' k c']).run Try.prog wr = .ok (.round l fn tmps assign body) wr := hy
      have HR := keep hR
      have HN := keep hN
      have HLT := keep hlt
      have HMC := keep hmc
      clear hR hT hp hN hor hp1 hlt hmc
      gi_wp2
      refine HR.out.mono ?_
      rintro e W3 ⟨rfl, hK3, hkp⟩
      have HK3 := keep hK3
      have HB3 := keep (hkp.1 HB.out)
      have hcm3 := hkp.2 hcm
      clear hK3 hkp
      gi_wp2
      gi_region
      gi_wp2
      have HD : BS w (if c' = k then A' else A'.map (·.add k)) (m - k) (c' - k) (bs.drop ((i + 1) * k)) := by
        have h1 := HL.out.br.drop (k := k) (cap := c') (by have := HL.out.len; have := HMC.out; omega)
        rw [List.drop_drop, show i * k + k = (i + 1) * k by rw [Nat.add_mul, Nat.one_mul]] at h1
        refine ⟨?_, by have := HMC.out; omega, h1⟩
        have := HL.out.len
        rw [List.length_drop] at this ⊢
        rw [Nat.add_mul, Nat.one_mul]
        omega
      have HI2 : (0 : Int) = (if i + 1 = 0 then 2 else 0) ∧ (i + 1) * k < n ∧ m - k = n - (i + 1) * k := by
        refine ⟨by rw [if_neg (Nat.succ_ne_zero i)], ?_, ?_⟩
        · have := HI.out.2.2
          have := HLT.out
          rw [Nat.add_mul, Nat.one_mul]
          omega
        · have := HI.out.2.2
          rw [Nat.add_mul, Nat.one_mul]
          omega
      go_roundw
      case rel =>
        exact ⟨i + 1, m - k, c' - k, _, 0, _, rfl, rfl, keep HI2, keep ⟨by rw [List.length_append, HX.out.1]; rfl, HK.out _ _ _ HK3.out (Below.refl _ _).drew⟩, keep HD, keep HB3.out.drew, hcm3⟩
      case measure =>
        have := HLT.out
        show m - k < m
        omega
    · have hlt' : ¬ (k : Int) < (m : Int) := by omega
      have hN : i + 1 = cnt k bs.length := by
        have h1 : i < cnt k bs.length := by rw [cnt_le hk, ← HLB.out]; exact HI.out.2.1
        have h2 : ¬ i + 1 < cnt k bs.length := by
          rw [cnt_le hk, Nat.add_mul, Nat.one_mul, ← HLB.out]
          have := HI.out.2.2
          omega
        omega
      have hp : p1 = plc (cnt k bs.length) i := by
        have := HI.out.1
        unfold plc
        rw [if_pos hN, hp1, this]
      have hT : bs.drop (i * k) = piece k bs i := by
        unfold piece
        rw [List.take_of_length_le]
        have := HL.out.len
        omega
      obtain ⟨fn, tmps, assign, body, hy, hR⟩ := HY.out xs (p1, A', m, c', piece k bs i) wr HX.out.2 ⟨by rw [HX.out.1]; omega, by rw [HX.out.1]; exact hp, by rw [HX.out.1], by rw [← hT]; exact HL.out⟩
      replace hy : (Instr.yield l #[.int .u8 p1, .slice A' m c']).run Try.prog wr = .ok (.round l fn tmps assign body) wr := hy
      have HR := keep hR
      have HN := keep hN
      clear hR hT hp hN hp1 hlt hmc
      gi_wp2
      refine HR.out.mono ?_
      rintro e W3 ⟨rfl, hK3, hkp⟩
      have HK3 := keep hK3
      clear hK3 hkp
      gi_wp2
      go_end0
      exact ⟨⟨_, rfl⟩, _, by rw [List.length_append, HX.out.1]; exact HN.out, HK3.out⟩
end Go.Proofs.Ytbfmklbffmodjaa
