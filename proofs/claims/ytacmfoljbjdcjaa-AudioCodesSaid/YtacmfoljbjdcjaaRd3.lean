/- Contracts of octet's readers: New, Left, next, skip. As XOct3, but what is left of a reader stays in the block in which it lay, and that block is one of octets (stages from 6 on). -/
import Derived.Test.YtacmfoljbjdcjaaOct2
namespace Go.Proofs.Ytacmfoljbjdcjaa
open Go.RowKit
set_option linter.unusedVariables false

/-- In w, block g is a reader, of which the octets bs are left. -/
def RD (w : World) (g : Nat) (A : Option Addr) (n c : Nat) (bs : List UInt8) : Prop :=
  w.heap[g]? = some (.cells #[.slice A n c] 90 (0, 0)) ∧ BS w A n c bs
theorem RD.cell {w : World} {g : Nat} {A : Option Addr} {n c : Nat} {bs : List UInt8} (h : RD w g A n c bs) : w.cell? ⟨g, 0, none⟩ = some (.slice A n c) := by
  rw [cell_of_row w g 0 _ _ _ h.1]; rfl
theorem RD.frozen {w : World} {g : Nat} {A : Option Addr} {n c : Nat} {bs : List UInt8} (h : RD w g A n c bs) : w.frozen? ⟨g, 0, none⟩ = false := by
  simp [World.frozen?, h.1]
theorem RD.lt {w : World} {g : Nat} {A : Option Addr} {n c : Nat} {bs : List UInt8} (h : RD w g A n c bs) : g < w.heap.size := (Array.getElem?_eq_some_iff.1 h.1).1
/-- What is no reader is not touched where a reader alone has turned. -/
theorem BS.past {w w' : World} {B : Option Addr} {m d : Nat} {ds : List UInt8} (h : BS w B m d ds) {g : Nat} {A : Option Addr} {n c : Nat} {bs : List UInt8} (hr : RD w g A n c bs) (hg : w.grownBy w' (some g)) : BS w' B m d ds := by
  refine ⟨h.1, h.2.1, fun hne => ?_⟩
  obtain ⟨b, o, e, hlt, hc⟩ := h.2.2 hne
  have hbg : b ≠ g := by
    rintro rfl
    rcases ds with _ | ⟨x, l⟩
    · exact hne rfl
    · have := hc 0 (.int .u8 x.toNat) rfl
      rw [cell_of_row w b _ _ _ _ hr.1] at this
      rw [Array.getElem?_eq_some_iff] at this
      obtain ⟨hl, hv⟩ := this
      have : o + 0 = 0 := by simp at hl; omega
      simp [this] at hv
  refine ⟨b, o, e, Nat.lt_of_lt_of_le hlt hg.size, fun j u hu => ?_⟩
  exact hg.cell (hc j u hu) (by simpa using hbg)
theorem RD.step {w w' : World} {g : Nat} {A : Option Addr} {n c : Nat} {bs : List UInt8} (h : RD w g A n c bs) (hb : Below w.heap.size w w') : RD w' g A n c bs :=
  ⟨(hb.block g h.lt).trans h.1, h.2.step hb⟩
theorem grown_below {w w' : World} {B g : Nat} (hg : w.grownBy w' (some g)) (hB : B ≤ g) (hlt : g < w.heap.size) : Below B w w' :=
  ⟨hg.os, hg.tape, hg.output, hg.size, fun k hk => hg.block k (by omega) (by simp; omega)⟩
theorem grown_then {w w1 w2 : World} {g : Nat} (h1 : w.grownBy w1 (some g)) (h2 : Below w1.heap.size w1 w2) : w.grownBy w2 (some g) :=
  ⟨h2.os.trans h1.os, h2.tape.trans h1.tape, h2.output.trans h1.output, Nat.le_trans h1.size h2.size, fun k hk hne => (h2.block k (Nat.lt_of_lt_of_le hk h1.size)).trans (h1.block k hk hne)⟩

/-- The slice at A, if there is one, lies in a block of octets. -/
def TY (w : World) (A : Option Addr) : Prop := ∀ a, A = some a → ∃ cs, w.heap[a.block]? = some (.cells cs 5 (0, 0))
theorem TY.step {w w' : World} {A : Option Addr} (h : TY w A) (hb : Below w.heap.size w w') : TY w' A := fun a e => by
  obtain ⟨cs, hc⟩ := h a e
  exact ⟨cs, (hb.block _ (Array.getElem?_eq_some_iff.1 hc).1).trans hc⟩
theorem TY.nothing (w : World) : TY w none := fun _ e => by cases e
theorem TY.own {w : World} {base n c : Nat} {A : Option Addr} {xs : List Value} (h : w.ownsRow base 5 1 (.slice A n c) n xs) : TY w A := by
  rcases h.2 with ⟨hv, _⟩ | ⟨g, cap, cur, hv, _, hg, _⟩
  · injection hv with hA
    subst hA
    exact TY.nothing w
  · injection hv with hA
    subst hA
    rintro a ⟨⟩
    exact ⟨cur, hg⟩

theorem new_any (A : Option Addr) (n c : Nat) (bs : List UInt8) (w : World) (ha : BS w A n c bs) (hn : n ≤ 281474976710000) :
    Calls Try.prog 29 #[.slice A n c] w fun e w' => ∃ g A' n' c', e = .returned (.pointer (some ⟨g, 0, none⟩)) ∧ RD w' g A' n' c' bs ∧ w.heap.size ≤ g ∧ Below w.heap.size w w' ∧ TY w' A' := by
  have K := keep (lay_ret A none n 0 c 0 bs [] w ha (BS.nil w) (by omega))
  go_enter Try.func29, Try.ntmps29
  go_wp2_with fail
  refine K.out.mono ?_
  rintro e w1 ⟨A1, n1, c1, rfl, hs1, hb1, ho1⟩
  go_wp2_with fail
  go_ret
  rw [List.append_nil] at hs1
  exact ⟨w1.heap.size, A1, n1, c1, rfl, ⟨heap_alloc_new _ _, hs1.step (below_lay _ _)⟩, hb1.size, hb1.alloc hb1.size _, (TY.own ho1.out).step (below_lay _ _)⟩

theorem left_any (g : Nat) (A : Option Addr) (n c : Nat) (bs : List UInt8) (w : World) (hr : RD w g A n c bs) :
    Calls Try.prog 34 #[.pointer (some ⟨g, 0, none⟩)] w fun e w' => e = .returned (.int .i64 n) ∧ w = w' := by
  have hc := hr.cell
  go_enter Try.func34, Try.ntmps34
  go_wp2_with fail
  go_ret
  exact ⟨rfl, rfl⟩

theorem left_nil (w : World) : Calls Try.prog 34 #[.pointer none] w fun e w' => e = .returned (.int .i64 0) ∧ w = w' := by
  go_enter Try.func34, Try.ntmps34
  go_wp2_with fail
  go_ret
  exact ⟨rfl, rfl⟩

theorem next_nil (k : Int) (w : World) : Calls Try.prog 43 #[.pointer none, .int .i64 k] w fun e w' => e = .returned (.tuple #[.slice none 0 0, .int .i64 1]) ∧ w = w' := by
  go_enter Try.func43, Try.ntmps43
  go_wp2_with fail
  go_ret2
  exact ⟨rfl, rfl⟩

theorem next_neg (g : Nat) (k : Int) (hk : k < 0) (w : World) : Calls Try.prog 43 #[.pointer (some ⟨g, 0, none⟩), .int .i64 k] w fun e w' => e = .returned (.tuple #[.slice none 0 0, .int .i64 1]) ∧ w = w' := by
  go_enter Try.func43, Try.ntmps43
  go_wp2_with fail
  go_ret2
  exact ⟨rfl, rfl⟩

theorem next_short (g : Nat) (A : Option Addr) (n c : Nat) (bs : List UInt8) (k : Int) (hk0 : 0 ≤ k) (hk : (n : Int) < k) (w : World) (hr : RD w g A n c bs) : Calls Try.prog 43 #[.pointer (some ⟨g, 0, none⟩), .int .i64 k] w fun e w' => e = .returned (.tuple #[.slice none 0 0, .int .i64 2]) ∧ w = w' := by
  have hc := hr.cell
  go_enter Try.func43, Try.ntmps43
  go_wp2_with fail
  go_ret2
  exact ⟨rfl, rfl⟩

theorem next_some (g : Nat) (A : Option Addr) (n c : Nat) (bs : List UInt8) (k : Nat) (hk : k ≤ n) (w : World) (hr : RD w g A n c bs) : Calls Try.prog 43 #[.pointer (some ⟨g, 0, none⟩), .int .i64 (k : Int)] w fun e w' => e = .returned (.tuple #[.slice A k k, .int .i64 0]) ∧ w = w' := by
  have hc := hr.cell
  have hcap := hr.2.cap
  go_enter Try.func43, Try.ntmps43
  go_wp2_with fail
  go_ret2
  exact ⟨rfl, rfl⟩

/-- What reader g holds now lies in the block in which what it held in w lay. -/
def Stays (w : World) (g : Nat) (A : Option Addr) : Prop := ∀ A0 n0 c0, w.cell? ⟨g, 0, none⟩ = some (.slice A0 n0 c0) → ∀ a, A = some a → ∃ a0, A0 = some a0 ∧ a.block = a0.block
theorem Stays.ty {w : World} {g : Nat} {A A0 : Option Addr} {n0 c0 : Nat} (h : Stays w g A) (hc : w.cell? ⟨g, 0, none⟩ = some (.slice A0 n0 c0)) (ht : TY w A0) : TY w A := fun a e => by
  obtain ⟨a0, e0, eb⟩ := h A0 n0 c0 hc a e
  rw [eb]
  exact ht a0 e0
/-- A reader that has turned, and it alone. -/
def RdPost (w : World) (g : Nat) (bs : List UInt8) (w' : World) : Prop :=
  ∃ A n c, RD w' g A n c bs ∧ w.grownBy w' (some g) ∧ Stays w g A
theorem rd_set {w : World} {g : Nat} {A X : Option Addr} {n c m d : Nat} {bs ds : List UInt8} (hr : RD w g A n c bs) (h : BS w X m d ds) (hX : ∀ a, X = some a → ∃ a0, A = some a0 ∧ a.block = a0.block) :
    RdPost w g ds (w.setCell ⟨g, 0, none⟩ (.slice X m d)) := by
  have hg : w.grownBy (w.setCell ⟨g, 0, none⟩ (.slice X m d)) (some g) :=
    ⟨rfl, rfl, rfl, by simp [World.setCell], fun k _ hne => Below.heap_setCell w _ _ k (by rintro rfl; exact hne rfl)⟩
  refine ⟨X, m, d, ⟨?_, h.past hr hg⟩, hg, fun A0 n0 c0 h0 a ha => ?_⟩
  · have := hr.1
    simp [World.setCell, Array.getElem?_modify, this]
  · rw [hr.cell] at h0
    injection h0 with h0
    injection h0 with h0
    subst h0
    exact hX a ha
theorem BS.drop {w : World} {A : Option Addr} {n c : Nat} {bs : List UInt8} (h : BS w A n c bs) (k : Nat) (hk : k ≤ n) :
    BS w (if c = k then A else A.map (·.add k)) (n - k) (c - k) (bs.drop k) := by
  obtain ⟨rfl, hc, hb⟩ := h
  exact ⟨by simp, by omega, hb.drop (by omega)⟩
theorem BS.take {w : World} {A : Option Addr} {n c : Nat} {bs : List UInt8} (h : BS w A n c bs) (k d : Nat) (hk : k ≤ n) (hd : k ≤ d) :
    BS w A k d (bs.take k) := by
  obtain ⟨rfl, hc, hb⟩ := h
  exact ⟨by simp; omega, hd, hb.take k⟩
theorem skip_some (g : Nat) (A : Option Addr) (n c : Nat) (bs : List UInt8) (k : Nat) (hk : k ≤ n) (w : World) (hr : RD w g A n c bs) :
    Calls Try.prog 44 #[.pointer (some ⟨g, 0, none⟩), .int .i64 (k : Int)] w fun e w' => e = .returned (.tuple #[]) ∧ RdPost w g (bs.drop k) w' := by
  have hc := hr.cell
  have hf := hr.frozen
  have hcap := hr.2.cap
  have HD := keep (hr.2.drop k hk)
  go_enter Try.func44, Try.ntmps44
  go_wp2_with fail
  · have h : c = k := by assumption
    go_end0
    have := HD.out
    rw [if_pos h, h, Nat.sub_self] at this
    exact ⟨rfl, rd_set hr this fun a ha => ⟨a, ha, rfl⟩⟩
  · have h : ¬ c = k := by assumption
    go_end0
    have := HD.out
    rw [if_neg h] at this
    exact ⟨rfl, rd_set hr this fun a ha => by
      rcases A with _ | a0
      · cases ha
      · simp only [Option.map_some, Option.some.injEq] at ha
        subst ha
        exact ⟨a0, rfl, by unfold Addr.add; split <;> rfl⟩⟩
end Go.Proofs.Ytacmfoljbjdcjaa
