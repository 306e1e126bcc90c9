/- The reference: the chunks of a message. -/
import Derived.OpenShut
import Derived.Test.YthpcblbciidmeaaSp7
import Derived.Test.YthpcblbciidmeaaSer1
namespace Go.Proofs.Ythpcblbciidmeaa
open Go.RowKit
set_option linter.unusedVariables false

theorem own_step {W W' : World} {base : Nat} {e : TypeId} {size n : Nat} {v : Value} {xs : List Value} (h : W.ownsRow base e size v n xs) (hb : Below W.heap.size W W') : W'.ownsRow base e size v n xs := by
  refine ⟨h.1, ?_⟩
  rcases h.2 with h0 | ⟨k, cap, cur, hv, hk, hg, r⟩
  · exact .inl h0
  · exact .inr ⟨k, cap, cur, hv, hk, (hb.block k (Array.getElem?_eq_some_iff.1 hg).1).trans hg, r⟩
theorem chunk_info : (Try.prog.info? 34).map (fun i => (i.zero, i.size, i.bytes)) = some (some (.agg #[.int .u8 0, .int .u8 0, .int .u32 0, .int .u32 0, .int .u16 0, .int .u16 0, .int .u32 0, .slice none 0 0, .slice none 0 0, .slice none 0 0, .slice none 0 0, .slice none 0 0]), 12, 144) := by kernel_rfl
theorem u32_in (n : Int) : 0 ≤ n % 4294967296 ∧ n % 4294967296 < 4294967296 := ⟨Int.emod_nonneg _ (by decide), Int.emod_lt_of_pos _ (by decide)⟩
def lenV (v : Value) : Nat := match v with | .slice _ m _ => m | _ => 0
abbrev nilT : Option Addr × Nat × Nat := (none, 0, 0)
theorem SR.new {w : World} {g : Nat} (hg : w.heap.size = g) (xs : List Value) (t : TypeId) : SR (w.alloc (.cells xs.toArray t)) (some ⟨g, 0, none⟩) xs := by
  rw [← hg]
  have := SR.row (heap_alloc_new w (.cells xs.toArray t))
  simpa using this
theorem lay2d (w : World) (X Y : Obj) : Below w.heap.size w ((w.alloc X).drew.alloc Y) := up (below_lay w X).drew (below_lay (w.alloc X).drew Y)
/-- .. that lie in a block of x1's. -/
def BSX (x1 : Option Addr) (w : World) (A : Option Addr) (n c : Nat) (bs : List UInt8) : Prop := BS w A n c bs ∧ ∀ a, A = some a → ∃ a0, x1 = some a0 ∧ a0.block = a.block
theorem BS_drop {w : World} {A : Option Addr} {n c k : Nat} {bs : List UInt8} (h : BS w A n c bs) (hk : k ≤ n) : BS w (if c = k then A else A.map (·.add k)) (n - k) (c - k) (bs.drop k) :=
  ⟨by rw [List.length_drop, h.len], by have := h.cap; omega, h.br.drop (by have := h.cap; have := h.len; omega)⟩
theorem BSX_drop {x1 : Option Addr} {w : World} {A : Option Addr} {n c k : Nat} {bs : List UInt8} (h : BSX x1 w A n c bs) (hk : k ≤ n) : BSX x1 w (if c = k then A else A.map (·.add k)) (n - k) (c - k) (bs.drop k) :=
  ⟨BS_drop h.1 hk, fun a e => by
    split at e
    · exact h.2 a e
    · cases A with
      | none => cases e
      | some b =>
        obtain ⟨a0, e0, e1⟩ := h.2 b rfl
        injection e with e
        refine ⟨a0, e0, e1.trans ?_⟩
        rw [← e]
        show b.block = (b.add k).block
        unfold Addr.add
        split <;> rfl⟩
/-- .. in memory of the message's, in a row that is new. -/
def SplitF (w : World) (x1 : Option Addr) (M : Msg) (tsn ssn : Int) (k : Nat) (e : Ending) (w' : World) : Prop :=
  ∃ A c l, e = .returned (.tuple #[.slice A (cnt k M.da.length) c, .int .i64 0]) ∧ CS w' A (cnt k M.da.length) c l ∧ (∀ x ∈ l, Plain x) ∧ l.map CX.ch = splitL M tsn ssn k ∧ Below w.heap.size w w' ∧ (∀ y ∈ l, ∀ a, y.da.1 = some a → ∃ a0, x1 = some a0 ∧ a0.block = a.block) ∧ ∀ a, A = some a → w.heap.size ≤ a.block
/-- While the reference makes chunks: its message's box, and the row. -/
structure RJ (w : World) (x : MX) (A : Option Addr) (i cc : Nat) (lst : List CX) (W : World) : Prop where
  mb : MB W w.heap.size x
  row : W.ownsRow (w.heap.size + 1) 34 12 (.slice A i cc) i (flatF CX.cells lst)
  vs : ∀ y ∈ lst, CV w y ∧ Plain y ∧ ∀ a, y.da.1 = some a → ∃ a0, x.da.1 = some a0 ∧ a0.block = a.block
  below : Below w.heap.size w W
theorem RJ.app {w : World} {x : MX} {A : Option Addr} {i c : Nat} {lst : List CX} {wr W w3 : World} (h : RJ w x A i c lst wr) {y : CX} (hW : Below wr.heap.size wr W) {A2 : Option Addr} {c2 : Nat}
    (ho : w3.ownsRow (w.heap.size + 1) 34 12 (.slice A2 (i + 1) c2) (i + 1) (flatF CX.cells lst ++ y.cells)) (hb : Below (w.heap.size + 1) W w3) (hy : CV w y ∧ Plain y ∧ ∀ a, y.da.1 = some a → ∃ a0, x.da.1 = some a0 ∧ a0.block = a.block) : RJ w x A2 (i + 1) c2 (lst ++ [y]) w3 := by
  refine ⟨(hb.block _ (Nat.lt_succ_self _)).trans ((hW.block _ h.mb.lt).trans h.mb), ?_, fun z hz => ?_, (up h.below hW).trans (hb.mono (Nat.le_succ _))⟩
  · rw [flatF_append, show flatF CX.cells [y] = y.cells by simp [flatF]]
    exact ho
  · rcases List.mem_append.1 hz with hz | hz
    · exact h.vs z hz
    · rw [List.mem_singleton.1 hz]
      exact hy
set_option maxRecDepth 100000 in
set_option maxHeartbeats 4000000 in
theorem refSplit_false (xs xp : Int) (x1 : Option Addr) (x2 x3 : Nat) (xbs : List UInt8) (tsn ssn : Int) (k : Nat) (w : World) (hx : MV w ⟨xs, false, xp, (x1, x2, x3), xbs⟩) (ht : 0 ≤ tsn ∧ tsn < 4294967296) (hs : (0 : Int) ≤ ssn ∧ (ssn : Int) < 65536) (hk : 0 < k) (hk2 : k ≤ 1172) (h0 : 0 < xbs.length) (hn : xbs.length ≤ 2000) :
    Calls Try.prog 15 #[.agg (MX.cells ⟨xs, false, xp, (x1, x2, x3), xbs⟩).toArray, .int .u32 tsn, .int .u16 ssn, .int .i64 (k : Int)] w (SplitF w x1 ⟨xs, false, xp, xbs⟩ tsn ssn k) := by
  obtain ⟨Z, hZ⟩ : ∃ Z : Value, Z = .agg #[.int .u8 0, .int .u8 0, .int .u32 0, .int .u32 0, .int .u16 0, .int .u16 0, .int .u32 0, .slice none 0 0, .slice none 0 0, .slice none 0 0, .slice none 0 0, .slice none 0 0] := ⟨_, rfl⟩
  obtain ⟨i0, hi, hz0, hz1, hz2⟩ := info_parts chunk_info
  rw [← hZ] at hz0
  have HZ : Hid (Z.cells.size = 12) := by rw [hZ]; exact keep rfl
  have q0 : ¬ x2 = 0 := by have := hx.bs.len; dsimp only at this; omega
  have q0' : ((x2 : Int) == 0) = false := by simp; exact q0
  have q1 : ¬ (k : Int) < 1 := by omega
  have q2 : ¬ 1172 < (k : Int) := by omega
  have q3 : ¬ 16384 < (x2 : Int) := by have := hx.bs.len; dsimp only at this; omega
  have HX := keep hx
  have HXL := keep (show x2 = xbs.length from hx.bs.len)
  have HQ := keep (And.intro hk hk2)
  have HN := keep hn
  have HT := keep ht
  have HS := keep hs
  have HMB := keep (show MB (w.alloc (.cells (MX.cells ⟨xs, false, xp, (x1, x2, x3), xbs⟩).toArray 44)) w.heap.size ⟨xs, false, xp, (x1, x2, x3), xbs⟩ from heap_alloc_new w _)
  have HLW := keep (below_lay w (.cells (MX.cells ⟨xs, false, xp, (x1, x2, x3), xbs⟩).toArray 44))
  clear hZ hx hk hk2 hn ht hs h0
  dsimp only [MX.cells] at HMB HLW ⊢
  go_enter Try.func15, Try.ntmps15
  go_wp2_with fail
  clear q0 q0' q1 q2 q3
  go_loopw [10, 11] (fun ov bv wr => ∃ (i : Nat) (A : Option Addr) (c : Nat) (B : Option Addr) (m cb : Nat), ov = .slice A i c ∧ bv = .slice B m cb ∧ Hid (i ≤ cnt k xbs.length ∧ i ≤ 2000 ∧ m = xbs.length - i * k) ∧ Hid (BSX x1 w B m cb (xbs.drop (i * k))) ∧ Hid (∃ lst, RJ w ⟨xs, false, xp, (x1, x2, x3), xbs⟩ A i c lst wr ∧ lst.map CX.ch = (List.range i).map (chAt ⟨xs, false, xp, xbs⟩ tsn ssn k))) (fun _ bv _ => lenV bv)
  case atStart => exact ⟨0, none, 0, x1, x2, x3, rfl, rfl, keep ⟨Nat.zero_le _, by omega, by have := HXL.out; omega⟩, keep ⟨by simpa using HX.out.bs, fun a e => ⟨a, e, rfl⟩⟩, keep ⟨[], ⟨HMB.out, World.ownsRow_nil _ _ _ _, by simp, HLW.out⟩, rfl⟩⟩
  case round =>
    obtain ⟨i, A, c, B, m, cb, rfl, rfl, HI, HB, HL⟩ := hrel
    obtain ⟨lst, hJ, hmap⟩ := HL.out
    have HJ := keep hJ
    have HM := keep (show lst.map CX.ch = _ from hmap)
    clear HL hJ hmap
    by_cases hm : m = 0
    · subst hm
      go_wp2_with fail
      go_ret2
      have hc : cnt k xbs.length = i := by
        have h1 := HI.out
        have h2 : ¬ i < cnt k xbs.length := by rw [cnt_le HQ.out.1]; omega
        omega
      exact ⟨A, c, lst, by rw [hc]; rfl, by rw [hc]; exact CS.of_own HJ.out.row fun y hy => (HJ.out.vs y hy).1.step HJ.out.below, fun y hy => (HJ.out.vs y hy).2.1, by rw [HM.out]; unfold splitL; rw [hc], HJ.out.below, fun y hy => (HJ.out.vs y hy).2.2, fun a e => Nat.le_trans (Nat.le_succ _) (by have h9 := HJ.out.row; rw [e] at h9; exact (h9.lt a.block rfl).1)⟩
    · have hm' : 0 < (m : Int) := by omega
      have m0 : wr.cell? ⟨w.heap.size, 0, none⟩ = some (.int .u16 xs) := HJ.out.mb.at_ 0 _ rfl
      have m1 : wr.cell? ⟨w.heap.size, 1, none⟩ = some (.bool false) := HJ.out.mb.at_ 1 _ rfl
      have m2 : wr.cell? ⟨w.heap.size, 2, none⟩ = some (.int .u32 xp) := HJ.out.mb.at_ 2 _ rfl
      have hgl : w.heap.size < wr.heap.size := HJ.out.mb.lt
      have HROW := keep (fun (X Y : Obj) => own_step HJ.out.row (lay2d wr X Y))
      by_cases h0 : i = 0
      · subst h0
        obtain ⟨ta, hta⟩ : ∃ ta : Int, (tsn + ((0 : Nat) : Int)) % 4294967296 = ta := ⟨_, rfl⟩
        have hta2 : 0 ≤ ta ∧ ta < 4294967296 := by rw [← hta]; exact u32_in _
        have hlt : 0 < cnt k xbs.length := by rw [cnt_le HQ.out.1]; have := HI.out.2.2; omega
        have hcv : IntKind.u32.wrap 0 = 0 := by rw [wrap_u32]; have := HI.out.2.1; omega
        have htw : IntKind.u32.wrap tsn = ta := by rw [wrap_u32, ← hta]; omega
        by_cases hl : k < m
        · have hNl : ¬ 0 + 1 = cnt k xbs.length := by
            have : 0 + 1 < cnt k xbs.length := by
              rw [cnt_le HQ.out.1, Nat.add_mul, Nat.one_mul]
              have := HI.out.2.2
              omega
            omega
          have hT : BS w B k cb (piece k xbs 0) := by
            refine ⟨?_, by have := HB.out.1.cap; omega, HB.out.1.br.take k⟩
            exact (piece_len (by rw [Nat.add_mul, Nat.one_mul]; have := HI.out.2.2; omega)).symm
          have HB2 := keep (BSX_drop (k := k) HB.out (by omega))
          rw [List.drop_drop, show 0 * k + k = (0 + 1) * k by rw [Nat.add_mul, Nat.one_mul]] at HB2
          have HI2 := keep (show 0 + 1 ≤ cnt k xbs.length ∧ 0 + 1 ≤ 2000 ∧ m - k = xbs.length - (0 + 1) * k from ⟨hlt, by have := cnt_le_n (k := k) (n := xbs.length) HQ.out.1; have := HN.out; omega, by have := HI.out.2.2; rw [Nat.add_mul, Nat.one_mul]; omega⟩)
          have HME := keep (show m - k < m by have := HQ.out.1; omega)
          have e1 : (k : Int) < (m : Int) := by omega
          have e2 : ((k : Int) == (m : Int)) = false := by simp; omega
          have e3 : (k : Int) ≤ (cb : Int) := by have := HB.out.1.cap; omega
          have e4 : (0 : Int) ≤ (k : Int) := by omega
          have e5 : min (k : Int) (m : Int) = (k : Int) := by omega
          have e6 : ¬ k = m := by omega
          clear hlt
          have HCV := keep (show CV w ⟨0, 2, ta, 0, xs, ssn, xp, nilT, nilT, nilT, nilT, (B, k, cb), [], piece k xbs 0⟩ ∧ Plain ⟨0, 2, ta, 0, xs, ssn, xp, nilT, nilT, nilT, nilT, (B, k, cb), [], piece k xbs 0⟩ ∧ ∀ a, (⟨0, 2, ta, 0, xs, ssn, xp, nilT, nilT, nilT, nilT, (B, k, cb), [], piece k xbs 0⟩ : CX).da.1 = some a → ∃ a0, x1 = some a0 ∧ a0.block = a.block from ⟨⟨(show (0 : Int) ≤ 0 ∧ (0 : Int) < 256 by decide), (show (0 : Int) ≤ 2 ∧ (2 : Int) < 256 by decide), hta2, (show (0 : Int) ≤ 0 ∧ (0 : Int) < 4294967296 by decide), HX.out.st, HS.out, HX.out.pp, PR.nil _, hT⟩, ⟨rfl, rfl, rfl, rfl⟩, fun a e => HB.out.2 a e⟩)
          have HCH : Hid ((lst ++ [(⟨0, 2, ta, 0, xs, ssn, xp, nilT, nilT, nilT, nilT, (B, k, cb), [], piece k xbs 0⟩ : CX)]).map CX.ch = (List.range (0 + 1)).map (chAt ⟨xs, false, xp, xbs⟩ tsn ssn k)) := by
            rw [List.map_append, HM.out, List.range_succ, List.map_append]
            have hfl : flg false (cnt k xbs.length) 0 = 2 := by unfold flg; rw [if_pos rfl, if_neg hNl]; rfl
            simp only [List.map_cons, List.map_nil, CX.ch, chAt, hfl, ssnOf, hta, if_false, Bool.false_eq_true]
            exact keep trivial
          clear hta hta2 hT hNl
          go_wp2_with fail
          skip
          go_region_held3 (fun w' => w'.cell? ⟨w.heap.size, 0, none⟩ = some (.int .u16 xs) ∧ w'.cell? ⟨w.heap.size, 2, none⟩ = some (.int .u32 xp)) (first | exact ⟨m0, m2⟩ | go_keep) (fail)
          go_wp2_with (at_builtin; refine wpl_appendK (by decide) rfl (.tmp 76) (.tmp 78) 48 rfl (w.heap.size + 1) 34 i0 Z Try.underlying48 hi hz0 hz1 HZ.out _ 0 (flatF CX.cells lst) rfl (HROW.out _ _) _ 1 1 (CX.cells ⟨0, 2, ta, 0, xs, ssn, xp, nilT, nilT, nilT, nilT, (B, k, cb), [], piece k xbs 0⟩) rfl rfl (SR.new (by simp) _ _) (CX.one _) (by have := HI.out.2; unfold maxLen; omega) (by rw [hz2]; have := HI.out.2; omega) (by have := HJ.out.mb.lt; simp; omega) ?_
                       intro A2 c2 w3 ho3 hb3 _
                       have HJ3 := keep (HJ.out.app (y := ⟨0, 2, ta, 0, xs, ssn, xp, nilT, nilT, nilT, nilT, (B, k, cb), [], piece k xbs 0⟩) (lay2d _ _ _) ho3.out hb3 HCV.out)
                       clear ho3 hb3)
          go_roundw
          case rel => exact ⟨0 + 1, A2, c2, _, _, _, rfl, rfl, HI2.out, HB2.out, keep ⟨_, HJ3.out, HCH.out⟩⟩
          case measure => exact HME.out
        · have hNl : 0 + 1 = cnt k xbs.length := by
            have : ¬ 0 + 1 < cnt k xbs.length := by
              rw [cnt_le HQ.out.1, Nat.add_mul, Nat.one_mul]
              have := HI.out.2.2
              omega
            omega
          have hT : BS w B m cb (piece k xbs 0) := by
            have e : piece k xbs 0 = xbs.drop (0 * k) := by
              unfold piece
              rw [List.take_of_length_le]
              have := HB.out.1.len
              omega
            rw [e]
            exact HB.out.1
          have HB2 := keep (BSX_drop (k := m) HB.out (Nat.le_refl _))
          rw [Nat.sub_self, List.drop_drop, List.drop_eq_nil_of_le (show xbs.length ≤ 0 * k + m by have := HI.out.2.2; omega), ← List.drop_eq_nil_of_le (show xbs.length ≤ (0 + 1) * k by rw [Nat.add_mul, Nat.one_mul]; have := HI.out.2.2; omega)] at HB2
          have HI2 := keep (show 0 + 1 ≤ cnt k xbs.length ∧ 0 + 1 ≤ 2000 ∧ 0 = xbs.length - (0 + 1) * k from ⟨hlt, by have := cnt_le_n (k := k) (n := xbs.length) HQ.out.1; have := HN.out; omega, by have := HI.out.2.2; rw [Nat.add_mul, Nat.one_mul]; omega⟩)
          have HME := keep (show 0 < m by omega)
          have e1 : ¬ (k : Int) < (m : Int) := by omega
          have e3 : (m : Int) ≤ (cb : Int) := by have := HB.out.1.cap; omega
          have e4 : (0 : Int) ≤ (m : Int) := by omega
          have e5 : (if m < k then (m : Int) else (k : Int)) = (m : Int) := by split <;> omega
          clear hlt
          have HCV := keep (show CV w ⟨0, 3, ta, 0, xs, ssn, xp, nilT, nilT, nilT, nilT, (B, m, cb), [], piece k xbs 0⟩ ∧ Plain ⟨0, 3, ta, 0, xs, ssn, xp, nilT, nilT, nilT, nilT, (B, m, cb), [], piece k xbs 0⟩ ∧ ∀ a, (⟨0, 3, ta, 0, xs, ssn, xp, nilT, nilT, nilT, nilT, (B, m, cb), [], piece k xbs 0⟩ : CX).da.1 = some a → ∃ a0, x1 = some a0 ∧ a0.block = a.block from ⟨⟨(show (0 : Int) ≤ 0 ∧ (0 : Int) < 256 by decide), (show (0 : Int) ≤ 3 ∧ (3 : Int) < 256 by decide), hta2, (show (0 : Int) ≤ 0 ∧ (0 : Int) < 4294967296 by decide), HX.out.st, HS.out, HX.out.pp, PR.nil _, hT⟩, ⟨rfl, rfl, rfl, rfl⟩, fun a e => HB.out.2 a e⟩)
          have HCH : Hid ((lst ++ [(⟨0, 3, ta, 0, xs, ssn, xp, nilT, nilT, nilT, nilT, (B, m, cb), [], piece k xbs 0⟩ : CX)]).map CX.ch = (List.range (0 + 1)).map (chAt ⟨xs, false, xp, xbs⟩ tsn ssn k)) := by
            rw [List.map_append, HM.out, List.range_succ, List.map_append]
            have hfl : flg false (cnt k xbs.length) 0 = 3 := by unfold flg; rw [if_pos rfl, if_pos hNl]; rfl
            simp only [List.map_cons, List.map_nil, CX.ch, chAt, hfl, ssnOf, hta, if_false, Bool.false_eq_true]
            exact keep trivial
          clear hta hta2 hT hNl
          go_wp2_with fail
          skip
          go_region_held3 (fun w' => w'.cell? ⟨w.heap.size, 0, none⟩ = some (.int .u16 xs) ∧ w'.cell? ⟨w.heap.size, 2, none⟩ = some (.int .u32 xp)) (first | exact ⟨m0, m2⟩ | go_keep) (fail)
          go_wp2_with (at_builtin; refine wpl_appendK (by decide) rfl (.tmp 76) (.tmp 78) 48 rfl (w.heap.size + 1) 34 i0 Z Try.underlying48 hi hz0 hz1 HZ.out _ 0 (flatF CX.cells lst) rfl (HROW.out _ _) _ 1 1 (CX.cells ⟨0, 3, ta, 0, xs, ssn, xp, nilT, nilT, nilT, nilT, (B, m, cb), [], piece k xbs 0⟩) rfl rfl (SR.new (by simp) _ _) (CX.one _) (by have := HI.out.2; unfold maxLen; omega) (by rw [hz2]; have := HI.out.2; omega) (by have := HJ.out.mb.lt; simp; omega) ?_
                       intro A2 c2 w3 ho3 hb3 _
                       have HJ3 := keep (HJ.out.app (y := ⟨0, 3, ta, 0, xs, ssn, xp, nilT, nilT, nilT, nilT, (B, m, cb), [], piece k xbs 0⟩) (lay2d _ _ _) ho3.out hb3 HCV.out)
                       clear ho3 hb3)
          go_roundw
          case rel => exact ⟨0 + 1, A2, c2, _, _, _, rfl, rfl, HI2.out, HB2.out, keep ⟨_, HJ3.out, HCH.out⟩⟩
          case measure => exact HME.out
      · have h0' : ((i : Int) == 0) = false := by simp; exact h0
        obtain ⟨ta, hta⟩ : ∃ ta : Int, (tsn + ((i : Nat) : Int)) % 4294967296 = ta := ⟨_, rfl⟩
        have hta2 : 0 ≤ ta ∧ ta < 4294967296 := by rw [← hta]; exact u32_in _
        have hlt : i < cnt k xbs.length := by rw [cnt_le HQ.out.1]; have := HI.out.2.2; omega
        have hcv : IntKind.u32.wrap ((i : Nat) : Int) = ((i : Nat) : Int) := by rw [wrap_u32]; have := HI.out.2.1; omega
        have htw : IntKind.u32.wrap (tsn + ((i : Nat) : Int)) = ta := by rw [wrap_u32, ← hta]
        by_cases hl : k < m
        · have hNl : ¬ i + 1 = cnt k xbs.length := by
            have : i + 1 < cnt k xbs.length := by
              rw [cnt_le HQ.out.1, Nat.add_mul, Nat.one_mul]
              have := HI.out.2.2
              omega
            omega
          have hT : BS w B k cb (piece k xbs i) := by
            refine ⟨?_, by have := HB.out.1.cap; omega, HB.out.1.br.take k⟩
            exact (piece_len (by rw [Nat.add_mul, Nat.one_mul]; have := HI.out.2.2; omega)).symm
          have HB2 := keep (BSX_drop (k := k) HB.out (by omega))
          rw [List.drop_drop, show i * k + k = (i + 1) * k by rw [Nat.add_mul, Nat.one_mul]] at HB2
          have HI2 := keep (show i + 1 ≤ cnt k xbs.length ∧ i + 1 ≤ 2000 ∧ m - k = xbs.length - (i + 1) * k from ⟨hlt, by have := cnt_le_n (k := k) (n := xbs.length) HQ.out.1; have := HN.out; omega, by have := HI.out.2.2; rw [Nat.add_mul, Nat.one_mul]; omega⟩)
          have HME := keep (show m - k < m by have := HQ.out.1; omega)
          have e1 : (k : Int) < (m : Int) := by omega
          have e2 : ((k : Int) == (m : Int)) = false := by simp; omega
          have e3 : (k : Int) ≤ (cb : Int) := by have := HB.out.1.cap; omega
          have e4 : (0 : Int) ≤ (k : Int) := by omega
          have e5 : min (k : Int) (m : Int) = (k : Int) := by omega
          have e6 : ¬ k = m := by omega
          clear hlt
          have HCV := keep (show CV w ⟨0, 0, ta, 0, xs, ssn, xp, nilT, nilT, nilT, nilT, (B, k, cb), [], piece k xbs i⟩ ∧ Plain ⟨0, 0, ta, 0, xs, ssn, xp, nilT, nilT, nilT, nilT, (B, k, cb), [], piece k xbs i⟩ ∧ ∀ a, (⟨0, 0, ta, 0, xs, ssn, xp, nilT, nilT, nilT, nilT, (B, k, cb), [], piece k xbs i⟩ : CX).da.1 = some a → ∃ a0, x1 = some a0 ∧ a0.block = a.block from ⟨⟨(show (0 : Int) ≤ 0 ∧ (0 : Int) < 256 by decide), (show (0 : Int) ≤ 0 ∧ (0 : Int) < 256 by decide), hta2, (show (0 : Int) ≤ 0 ∧ (0 : Int) < 4294967296 by decide), HX.out.st, HS.out, HX.out.pp, PR.nil _, hT⟩, ⟨rfl, rfl, rfl, rfl⟩, fun a e => HB.out.2 a e⟩)
          have HCH : Hid ((lst ++ [(⟨0, 0, ta, 0, xs, ssn, xp, nilT, nilT, nilT, nilT, (B, k, cb), [], piece k xbs i⟩ : CX)]).map CX.ch = (List.range (i + 1)).map (chAt ⟨xs, false, xp, xbs⟩ tsn ssn k)) := by
            rw [List.map_append, HM.out, List.range_succ, List.map_append]
            have hfl : flg false (cnt k xbs.length) i = 0 := by unfold flg; rw [if_neg h0, if_neg hNl]; rfl
            simp only [List.map_cons, List.map_nil, CX.ch, chAt, hfl, ssnOf, hta, if_false, Bool.false_eq_true]
            exact keep trivial
          clear hta hta2 hT hNl
          go_wp2_with fail
          skip
          go_region_held3 (fun w' => w'.cell? ⟨w.heap.size, 0, none⟩ = some (.int .u16 xs) ∧ w'.cell? ⟨w.heap.size, 2, none⟩ = some (.int .u32 xp)) (first | exact ⟨m0, m2⟩ | go_keep) (fail)
          go_wp2_with (at_builtin; refine wpl_appendK (by decide) rfl (.tmp 76) (.tmp 78) 48 rfl (w.heap.size + 1) 34 i0 Z Try.underlying48 hi hz0 hz1 HZ.out _ i (flatF CX.cells lst) rfl (HROW.out _ _) _ 1 1 (CX.cells ⟨0, 0, ta, 0, xs, ssn, xp, nilT, nilT, nilT, nilT, (B, k, cb), [], piece k xbs i⟩) rfl rfl (SR.new (by simp) _ _) (CX.one _) (by have := HI.out.2; unfold maxLen; omega) (by rw [hz2]; have := HI.out.2; omega) (by have := HJ.out.mb.lt; simp; omega) ?_
                       intro A2 c2 w3 ho3 hb3 _
                       have HJ3 := keep (HJ.out.app (y := ⟨0, 0, ta, 0, xs, ssn, xp, nilT, nilT, nilT, nilT, (B, k, cb), [], piece k xbs i⟩) (lay2d _ _ _) ho3.out hb3 HCV.out)
                       clear ho3 hb3)
          go_roundw
          case rel => exact ⟨i + 1, A2, c2, _, _, _, rfl, rfl, HI2.out, HB2.out, keep ⟨_, HJ3.out, HCH.out⟩⟩
          case measure => exact HME.out
        · have hNl : i + 1 = cnt k xbs.length := by
            have : ¬ i + 1 < cnt k xbs.length := by
              rw [cnt_le HQ.out.1, Nat.add_mul, Nat.one_mul]
              have := HI.out.2.2
              omega
            omega
          have hT : BS w B m cb (piece k xbs i) := by
            have e : piece k xbs i = xbs.drop (i * k) := by
              unfold piece
              rw [List.take_of_length_le]
              have := HB.out.1.len
              omega
            rw [e]
            exact HB.out.1
          have HB2 := keep (BSX_drop (k := m) HB.out (Nat.le_refl _))
          rw [Nat.sub_self, List.drop_drop, List.drop_eq_nil_of_le (show xbs.length ≤ i * k + m by have := HI.out.2.2; omega), ← List.drop_eq_nil_of_le (show xbs.length ≤ (i + 1) * k by rw [Nat.add_mul, Nat.one_mul]; have := HI.out.2.2; omega)] at HB2
          have HI2 := keep (show i + 1 ≤ cnt k xbs.length ∧ i + 1 ≤ 2000 ∧ 0 = xbs.length - (i + 1) * k from ⟨hlt, by have := cnt_le_n (k := k) (n := xbs.length) HQ.out.1; have := HN.out; omega, by have := HI.out.2.2; rw [Nat.add_mul, Nat.one_mul]; omega⟩)
          have HME := keep (show 0 < m by omega)
          have e1 : ¬ (k : Int) < (m : Int) := by omega
          have e3 : (m : Int) ≤ (cb : Int) := by have := HB.out.1.cap; omega
          have e4 : (0 : Int) ≤ (m : Int) := by omega
          have e5 : (if m < k then (m : Int) else (k : Int)) = (m : Int) := by split <;> omega
          clear hlt
          have HCV := keep (show CV w ⟨0, 1, ta, 0, xs, ssn, xp, nilT, nilT, nilT, nilT, (B, m, cb), [], piece k xbs i⟩ ∧ Plain ⟨0, 1, ta, 0, xs, ssn, xp, nilT, nilT, nilT, nilT, (B, m, cb), [], piece k xbs i⟩ ∧ ∀ a, (⟨0, 1, ta, 0, xs, ssn, xp, nilT, nilT, nilT, nilT, (B, m, cb), [], piece k xbs i⟩ : CX).da.1 = some a → ∃ a0, x1 = some a0 ∧ a0.block = a.block from ⟨⟨(show (0 : Int) ≤ 0 ∧ (0 : Int) < 256 by decide), (show (0 : Int) ≤ 1 ∧ (1 : Int) < 256 by decide), hta2, (show (0 : Int) ≤ 0 ∧ (0 : Int) < 4294967296 by decide), HX.out.st, HS.out, HX.out.pp, PR.nil _, hT⟩, ⟨rfl, rfl, rfl, rfl⟩, fun a e => HB.out.2 a e⟩)
          have HCH : Hid ((lst ++ [(⟨0, 1, ta, 0, xs, ssn, xp, nilT, nilT, nilT, nilT, (B, m, cb), [], piece k xbs i⟩ : CX)]).map CX.ch = (List.range (i + 1)).map (chAt ⟨xs, false, xp, xbs⟩ tsn ssn k)) := by
            rw [List.map_append, HM.out, List.range_succ, List.map_append]
            have hfl : flg false (cnt k xbs.length) i = 1 := by unfold flg; rw [if_neg h0, if_pos hNl]; rfl
            simp only [List.map_cons, List.map_nil, CX.ch, chAt, hfl, ssnOf, hta, if_false, Bool.false_eq_true]
            exact keep trivial
          clear hta hta2 hT hNl
          go_wp2_with fail
          skip
          go_region_held3 (fun w' => w'.cell? ⟨w.heap.size, 0, none⟩ = some (.int .u16 xs) ∧ w'.cell? ⟨w.heap.size, 2, none⟩ = some (.int .u32 xp)) (first | exact ⟨m0, m2⟩ | go_keep) (fail)
          go_wp2_with (at_builtin; refine wpl_appendK (by decide) rfl (.tmp 76) (.tmp 78) 48 rfl (w.heap.size + 1) 34 i0 Z Try.underlying48 hi hz0 hz1 HZ.out _ i (flatF CX.cells lst) rfl (HROW.out _ _) _ 1 1 (CX.cells ⟨0, 1, ta, 0, xs, ssn, xp, nilT, nilT, nilT, nilT, (B, m, cb), [], piece k xbs i⟩) rfl rfl (SR.new (by simp) _ _) (CX.one _) (by have := HI.out.2; unfold maxLen; omega) (by rw [hz2]; have := HI.out.2; omega) (by have := HJ.out.mb.lt; simp; omega) ?_
                       intro A2 c2 w3 ho3 hb3 _
                       have HJ3 := keep (HJ.out.app (y := ⟨0, 1, ta, 0, xs, ssn, xp, nilT, nilT, nilT, nilT, (B, m, cb), [], piece k xbs i⟩) (lay2d _ _ _) ho3.out hb3 HCV.out)
                       clear ho3 hb3)
          go_roundw
          case rel => exact ⟨i + 1, A2, c2, _, _, _, rfl, rfl, HI2.out, HB2.out, keep ⟨_, HJ3.out, HCH.out⟩⟩
          case measure => exact HME.out

set_option maxRecDepth 100000 in
set_option maxHeartbeats 4000000 in
theorem refSplit_true (xs xp : Int) (x1 : Option Addr) (x2 x3 : Nat) (xbs : List UInt8) (tsn ssn : Int) (k : Nat) (w : World) (hx : MV w ⟨xs, true, xp, (x1, x2, x3), xbs⟩) (ht : 0 ≤ tsn ∧ tsn < 4294967296) (hs : (0 : Int) ≤ 0 ∧ (0 : Int) < 65536) (hk : 0 < k) (hk2 : k ≤ 1172) (h0 : 0 < xbs.length) (hn : xbs.length ≤ 2000) :
    Calls Try.prog 15 #[.agg (MX.cells ⟨xs, true, xp, (x1, x2, x3), xbs⟩).toArray, .int .u32 tsn, .int .u16 ssn, .int .i64 (k : Int)] w (SplitF w x1 ⟨xs, true, xp, xbs⟩ tsn ssn k) := by
  obtain ⟨Z, hZ⟩ : ∃ Z : Value, Z = .agg #[.int .u8 0, .int .u8 0, .int .u32 0, .int .u32 0, .int .u16 0, .int .u16 0, .int .u32 0, .slice none 0 0, .slice none 0 0, .slice none 0 0, .slice none 0 0, .slice none 0 0] := ⟨_, rfl⟩
  obtain ⟨i0, hi, hz0, hz1, hz2⟩ := info_parts chunk_info
  rw [← hZ] at hz0
  have HZ : Hid (Z.cells.size = 12) := by rw [hZ]; exact keep rfl
  have q0 : ¬ x2 = 0 := by have := hx.bs.len; dsimp only at this; omega
  have q0' : ((x2 : Int) == 0) = false := by simp; exact q0
  have q1 : ¬ (k : Int) < 1 := by omega
  have q2 : ¬ 1172 < (k : Int) := by omega
  have q3 : ¬ 16384 < (x2 : Int) := by have := hx.bs.len; dsimp only at this; omega
  have HX := keep hx
  have HXL := keep (show x2 = xbs.length from hx.bs.len)
  have HQ := keep (And.intro hk hk2)
  have HN := keep hn
  have HT := keep ht
  have HS := keep hs
  have HMB := keep (show MB (w.alloc (.cells (MX.cells ⟨xs, true, xp, (x1, x2, x3), xbs⟩).toArray 44)) w.heap.size ⟨xs, true, xp, (x1, x2, x3), xbs⟩ from heap_alloc_new w _)
  have HLW := keep (below_lay w (.cells (MX.cells ⟨xs, true, xp, (x1, x2, x3), xbs⟩).toArray 44))
  clear hZ hx hk hk2 hn ht hs h0
  dsimp only [MX.cells] at HMB HLW ⊢
  go_enter Try.func15, Try.ntmps15
  go_wp2_with fail
  clear q0 q0' q1 q2 q3
  go_loopw [10, 11] (fun ov bv wr => ∃ (i : Nat) (A : Option Addr) (c : Nat) (B : Option Addr) (m cb : Nat), ov = .slice A i c ∧ bv = .slice B m cb ∧ Hid (i ≤ cnt k xbs.length ∧ i ≤ 2000 ∧ m = xbs.length - i * k) ∧ Hid (BSX x1 w B m cb (xbs.drop (i * k))) ∧ Hid (∃ lst, RJ w ⟨xs, true, xp, (x1, x2, x3), xbs⟩ A i c lst wr ∧ lst.map CX.ch = (List.range i).map (chAt ⟨xs, true, xp, xbs⟩ tsn ssn k))) (fun _ bv _ => lenV bv)
  case atStart => exact ⟨0, none, 0, x1, x2, x3, rfl, rfl, keep ⟨Nat.zero_le _, by omega, by have := HXL.out; omega⟩, keep ⟨by simpa using HX.out.bs, fun a e => ⟨a, e, rfl⟩⟩, keep ⟨[], ⟨HMB.out, World.ownsRow_nil _ _ _ _, by simp, HLW.out⟩, rfl⟩⟩
  case round =>
    obtain ⟨i, A, c, B, m, cb, rfl, rfl, HI, HB, HL⟩ := hrel
    obtain ⟨lst, hJ, hmap⟩ := HL.out
    have HJ := keep hJ
    have HM := keep (show lst.map CX.ch = _ from hmap)
    clear HL hJ hmap
    by_cases hm : m = 0
    · subst hm
      go_wp2_with fail
      go_ret2
      have hc : cnt k xbs.length = i := by
        have h1 := HI.out
        have h2 : ¬ i < cnt k xbs.length := by rw [cnt_le HQ.out.1]; omega
        omega
      exact ⟨A, c, lst, by rw [hc]; rfl, by rw [hc]; exact CS.of_own HJ.out.row fun y hy => (HJ.out.vs y hy).1.step HJ.out.below, fun y hy => (HJ.out.vs y hy).2.1, by rw [HM.out]; unfold splitL; rw [hc], HJ.out.below, fun y hy => (HJ.out.vs y hy).2.2, fun a e => Nat.le_trans (Nat.le_succ _) (by have h9 := HJ.out.row; rw [e] at h9; exact (h9.lt a.block rfl).1)⟩
    · have hm' : 0 < (m : Int) := by omega
      have m0 : wr.cell? ⟨w.heap.size, 0, none⟩ = some (.int .u16 xs) := HJ.out.mb.at_ 0 _ rfl
      have m1 : wr.cell? ⟨w.heap.size, 1, none⟩ = some (.bool true) := HJ.out.mb.at_ 1 _ rfl
      have m2 : wr.cell? ⟨w.heap.size, 2, none⟩ = some (.int .u32 xp) := HJ.out.mb.at_ 2 _ rfl
      have hgl : w.heap.size < wr.heap.size := HJ.out.mb.lt
      have HROW := keep (fun (X Y : Obj) => own_step HJ.out.row (lay2d wr X Y))
      by_cases h0 : i = 0
      · subst h0
        obtain ⟨ta, hta⟩ : ∃ ta : Int, (tsn + ((0 : Nat) : Int)) % 4294967296 = ta := ⟨_, rfl⟩
        have hta2 : 0 ≤ ta ∧ ta < 4294967296 := by rw [← hta]; exact u32_in _
        have hlt : 0 < cnt k xbs.length := by rw [cnt_le HQ.out.1]; have := HI.out.2.2; omega
        have hcv : IntKind.u32.wrap 0 = 0 := by rw [wrap_u32]; have := HI.out.2.1; omega
        have htw : IntKind.u32.wrap tsn = ta := by rw [wrap_u32, ← hta]; omega
        by_cases hl : k < m
        · have hNl : ¬ 0 + 1 = cnt k xbs.length := by
            have : 0 + 1 < cnt k xbs.length := by
              rw [cnt_le HQ.out.1, Nat.add_mul, Nat.one_mul]
              have := HI.out.2.2
              omega
            omega
          have hT : BS w B k cb (piece k xbs 0) := by
            refine ⟨?_, by have := HB.out.1.cap; omega, HB.out.1.br.take k⟩
            exact (piece_len (by rw [Nat.add_mul, Nat.one_mul]; have := HI.out.2.2; omega)).symm
          have HB2 := keep (BSX_drop (k := k) HB.out (by omega))
          rw [List.drop_drop, show 0 * k + k = (0 + 1) * k by rw [Nat.add_mul, Nat.one_mul]] at HB2
          have HI2 := keep (show 0 + 1 ≤ cnt k xbs.length ∧ 0 + 1 ≤ 2000 ∧ m - k = xbs.length - (0 + 1) * k from ⟨hlt, by have := cnt_le_n (k := k) (n := xbs.length) HQ.out.1; have := HN.out; omega, by have := HI.out.2.2; rw [Nat.add_mul, Nat.one_mul]; omega⟩)
          have HME := keep (show m - k < m by have := HQ.out.1; omega)
          have e1 : (k : Int) < (m : Int) := by omega
          have e2 : ((k : Int) == (m : Int)) = false := by simp; omega
          have e3 : (k : Int) ≤ (cb : Int) := by have := HB.out.1.cap; omega
          have e4 : (0 : Int) ≤ (k : Int) := by omega
          have e5 : min (k : Int) (m : Int) = (k : Int) := by omega
          have e6 : ¬ k = m := by omega
          clear hlt
          have HCV := keep (show CV w ⟨0, 6, ta, 0, xs, 0, xp, nilT, nilT, nilT, nilT, (B, k, cb), [], piece k xbs 0⟩ ∧ Plain ⟨0, 6, ta, 0, xs, 0, xp, nilT, nilT, nilT, nilT, (B, k, cb), [], piece k xbs 0⟩ ∧ ∀ a, (⟨0, 6, ta, 0, xs, 0, xp, nilT, nilT, nilT, nilT, (B, k, cb), [], piece k xbs 0⟩ : CX).da.1 = some a → ∃ a0, x1 = some a0 ∧ a0.block = a.block from ⟨⟨(show (0 : Int) ≤ 0 ∧ (0 : Int) < 256 by decide), (show (0 : Int) ≤ 6 ∧ (6 : Int) < 256 by decide), hta2, (show (0 : Int) ≤ 0 ∧ (0 : Int) < 4294967296 by decide), HX.out.st, HS.out, HX.out.pp, PR.nil _, hT⟩, ⟨rfl, rfl, rfl, rfl⟩, fun a e => HB.out.2 a e⟩)
          have HCH : Hid ((lst ++ [(⟨0, 6, ta, 0, xs, 0, xp, nilT, nilT, nilT, nilT, (B, k, cb), [], piece k xbs 0⟩ : CX)]).map CX.ch = (List.range (0 + 1)).map (chAt ⟨xs, true, xp, xbs⟩ tsn ssn k)) := by
            rw [List.map_append, HM.out, List.range_succ, List.map_append]
            have hfl : flg true (cnt k xbs.length) 0 = 6 := by unfold flg; rw [if_pos rfl, if_neg hNl]; rfl
            simp only [List.map_cons, List.map_nil, CX.ch, chAt, hfl, ssnOf, hta, if_true]
            exact keep trivial
          clear hta hta2 hT hNl
          go_wp2_with fail
          skip
          go_region_held3 (fun w' => w'.cell? ⟨w.heap.size, 0, none⟩ = some (.int .u16 xs) ∧ w'.cell? ⟨w.heap.size, 2, none⟩ = some (.int .u32 xp)) (first | exact ⟨m0, m2⟩ | go_keep) (fail)
          go_wp2_with (at_builtin; refine wpl_appendK (by decide) rfl (.tmp 76) (.tmp 78) 48 rfl (w.heap.size + 1) 34 i0 Z Try.underlying48 hi hz0 hz1 HZ.out _ 0 (flatF CX.cells lst) rfl (HROW.out _ _) _ 1 1 (CX.cells ⟨0, 6, ta, 0, xs, 0, xp, nilT, nilT, nilT, nilT, (B, k, cb), [], piece k xbs 0⟩) rfl rfl (SR.new (by simp) _ _) (CX.one _) (by have := HI.out.2; unfold maxLen; omega) (by rw [hz2]; have := HI.out.2; omega) (by have := HJ.out.mb.lt; simp; omega) ?_
                       intro A2 c2 w3 ho3 hb3 _
                       have HJ3 := keep (HJ.out.app (y := ⟨0, 6, ta, 0, xs, 0, xp, nilT, nilT, nilT, nilT, (B, k, cb), [], piece k xbs 0⟩) (lay2d _ _ _) ho3.out hb3 HCV.out)
                       clear ho3 hb3)
          go_roundw
          case rel => exact ⟨0 + 1, A2, c2, _, _, _, rfl, rfl, HI2.out, HB2.out, keep ⟨_, HJ3.out, HCH.out⟩⟩
          case measure => exact HME.out
        · have hNl : 0 + 1 = cnt k xbs.length := by
            have : ¬ 0 + 1 < cnt k xbs.length := by
              rw [cnt_le HQ.out.1, Nat.add_mul, Nat.one_mul]
              have := HI.out.2.2
              omega
            omega
          have hT : BS w B m cb (piece k xbs 0) := by
            have e : piece k xbs 0 = xbs.drop (0 * k) := by
              unfold piece
              rw [List.take_of_length_le]
              have := HB.out.1.len
              omega
            rw [e]
            exact HB.out.1
          have HB2 := keep (BSX_drop (k := m) HB.out (Nat.le_refl _))
          rw [Nat.sub_self, List.drop_drop, List.drop_eq_nil_of_le (show xbs.length ≤ 0 * k + m by have := HI.out.2.2; omega), ← List.drop_eq_nil_of_le (show xbs.length ≤ (0 + 1) * k by rw [Nat.add_mul, Nat.one_mul]; have := HI.out.2.2; omega)] at HB2
          have HI2 := keep (show 0 + 1 ≤ cnt k xbs.length ∧ 0 + 1 ≤ 2000 ∧ 0 = xbs.length - (0 + 1) * k from ⟨hlt, by have := cnt_le_n (k := k) (n := xbs.length) HQ.out.1; have := HN.out; omega, by have := HI.out.2.2; rw [Nat.add_mul, Nat.one_mul]; omega⟩)
          have HME := keep (show 0 < m by omega)
          have e1 : ¬ (k : Int) < (m : Int) := by omega
          have e3 : (m : Int) ≤ (cb : Int) := by have := HB.out.1.cap; omega
          have e4 : (0 : Int) ≤ (m : Int) := by omega
          have e5 : (if m < k then (m : Int) else (k : Int)) = (m : Int) := by split <;> omega
          clear hlt
          have HCV := keep (show CV w ⟨0, 7, ta, 0, xs, 0, xp, nilT, nilT, nilT, nilT, (B, m, cb), [], piece k xbs 0⟩ ∧ Plain ⟨0, 7, ta, 0, xs, 0, xp, nilT, nilT, nilT, nilT, (B, m, cb), [], piece k xbs 0⟩ ∧ ∀ a, (⟨0, 7, ta, 0, xs, 0, xp, nilT, nilT, nilT, nilT, (B, m, cb), [], piece k xbs 0⟩ : CX).da.1 = some a → ∃ a0, x1 = some a0 ∧ a0.block = a.block from ⟨⟨(show (0 : Int) ≤ 0 ∧ (0 : Int) < 256 by decide), (show (0 : Int) ≤ 7 ∧ (7 : Int) < 256 by decide), hta2, (show (0 : Int) ≤ 0 ∧ (0 : Int) < 4294967296 by decide), HX.out.st, HS.out, HX.out.pp, PR.nil _, hT⟩, ⟨rfl, rfl, rfl, rfl⟩, fun a e => HB.out.2 a e⟩)
          have HCH : Hid ((lst ++ [(⟨0, 7, ta, 0, xs, 0, xp, nilT, nilT, nilT, nilT, (B, m, cb), [], piece k xbs 0⟩ : CX)]).map CX.ch = (List.range (0 + 1)).map (chAt ⟨xs, true, xp, xbs⟩ tsn ssn k)) := by
            rw [List.map_append, HM.out, List.range_succ, List.map_append]
            have hfl : flg true (cnt k xbs.length) 0 = 7 := by unfold flg; rw [if_pos rfl, if_pos hNl]; rfl
            simp only [List.map_cons, List.map_nil, CX.ch, chAt, hfl, ssnOf, hta, if_true]
            exact keep trivial
          clear hta hta2 hT hNl
          go_wp2_with fail
          skip
          go_region_held3 (fun w' => w'.cell? ⟨w.heap.size, 0, none⟩ = some (.int .u16 xs) ∧ w'.cell? ⟨w.heap.size, 2, none⟩ = some (.int .u32 xp)) (first | exact ⟨m0, m2⟩ | go_keep) (fail)
          go_wp2_with (at_builtin; refine wpl_appendK (by decide) rfl (.tmp 76) (.tmp 78) 48 rfl (w.heap.size + 1) 34 i0 Z Try.underlying48 hi hz0 hz1 HZ.out _ 0 (flatF CX.cells lst) rfl (HROW.out _ _) _ 1 1 (CX.cells ⟨0, 7, ta, 0, xs, 0, xp, nilT, nilT, nilT, nilT, (B, m, cb), [], piece k xbs 0⟩) rfl rfl (SR.new (by simp) _ _) (CX.one _) (by have := HI.out.2; unfold maxLen; omega) (by rw [hz2]; have := HI.out.2; omega) (by have := HJ.out.mb.lt; simp; omega) ?_
                       intro A2 c2 w3 ho3 hb3 _
                       have HJ3 := keep (HJ.out.app (y := ⟨0, 7, ta, 0, xs, 0, xp, nilT, nilT, nilT, nilT, (B, m, cb), [], piece k xbs 0⟩) (lay2d _ _ _) ho3.out hb3 HCV.out)
                       clear ho3 hb3)
          go_roundw
          case rel => exact ⟨0 + 1, A2, c2, _, _, _, rfl, rfl, HI2.out, HB2.out, keep ⟨_, HJ3.out, HCH.out⟩⟩
          case measure => exact HME.out
      · have h0' : ((i : Int) == 0) = false := by simp; exact h0
        obtain ⟨ta, hta⟩ : ∃ ta : Int, (tsn + ((i : Nat) : Int)) % 4294967296 = ta := ⟨_, rfl⟩
        have hta2 : 0 ≤ ta ∧ ta < 4294967296 := by rw [← hta]; exact u32_in _
        have hlt : i < cnt k xbs.length := by rw [cnt_le HQ.out.1]; have := HI.out.2.2; omega
        have hcv : IntKind.u32.wrap ((i : Nat) : Int) = ((i : Nat) : Int) := by rw [wrap_u32]; have := HI.out.2.1; omega
        have htw : IntKind.u32.wrap (tsn + ((i : Nat) : Int)) = ta := by rw [wrap_u32, ← hta]
        by_cases hl : k < m
        · have hNl : ¬ i + 1 = cnt k xbs.length := by
            have : i + 1 < cnt k xbs.length := by
              rw [cnt_le HQ.out.1, Nat.add_mul, Nat.one_mul]
              have := HI.out.2.2
              omega
            omega
          have hT : BS w B k cb (piece k xbs i) := by
            refine ⟨?_, by have := HB.out.1.cap; omega, HB.out.1.br.take k⟩
            exact (piece_len (by rw [Nat.add_mul, Nat.one_mul]; have := HI.out.2.2; omega)).symm
          have HB2 := keep (BSX_drop (k := k) HB.out (by omega))
          rw [List.drop_drop, show i * k + k = (i + 1) * k by rw [Nat.add_mul, Nat.one_mul]] at HB2
          have HI2 := keep (show i + 1 ≤ cnt k xbs.length ∧ i + 1 ≤ 2000 ∧ m - k = xbs.length - (i + 1) * k from ⟨hlt, by have := cnt_le_n (k := k) (n := xbs.length) HQ.out.1; have := HN.out; omega, by have := HI.out.2.2; rw [Nat.add_mul, Nat.one_mul]; omega⟩)
          have HME := keep (show m - k < m by have := HQ.out.1; omega)
          have e1 : (k : Int) < (m : Int) := by omega
          have e2 : ((k : Int) == (m : Int)) = false := by simp; omega
          have e3 : (k : Int) ≤ (cb : Int) := by have := HB.out.1.cap; omega
          have e4 : (0 : Int) ≤ (k : Int) := by omega
          have e5 : min (k : Int) (m : Int) = (k : Int) := by omega
          have e6 : ¬ k = m := by omega
          clear hlt
          have HCV := keep (show CV w ⟨0, 4, ta, 0, xs, 0, xp, nilT, nilT, nilT, nilT, (B, k, cb), [], piece k xbs i⟩ ∧ Plain ⟨0, 4, ta, 0, xs, 0, xp, nilT, nilT, nilT, nilT, (B, k, cb), [], piece k xbs i⟩ ∧ ∀ a, (⟨0, 4, ta, 0, xs, 0, xp, nilT, nilT, nilT, nilT, (B, k, cb), [], piece k xbs i⟩ : CX).da.1 = some a → ∃ a0, x1 = some a0 ∧ a0.block = a.block from ⟨⟨(show (0 : Int) ≤ 0 ∧ (0 : Int) < 256 by decide), (show (0 : Int) ≤ 4 ∧ (4 : Int) < 256 by decide), hta2, (show (0 : Int) ≤ 0 ∧ (0 : Int) < 4294967296 by decide), HX.out.st, HS.out, HX.out.pp, PR.nil _, hT⟩, ⟨rfl, rfl, rfl, rfl⟩, fun a e => HB.out.2 a e⟩)
          have HCH : Hid ((lst ++ [(⟨0, 4, ta, 0, xs, 0, xp, nilT, nilT, nilT, nilT, (B, k, cb), [], piece k xbs i⟩ : CX)]).map CX.ch = (List.range (i + 1)).map (chAt ⟨xs, true, xp, xbs⟩ tsn ssn k)) := by
            rw [List.map_append, HM.out, List.range_succ, List.map_append]
            have hfl : flg true (cnt k xbs.length) i = 4 := by unfold flg; rw [if_neg h0, if_neg hNl]; rfl
            simp only [List.map_cons, List.map_nil, CX.ch, chAt, hfl, ssnOf, hta, if_true]
            exact keep trivial
          clear hta hta2 hT hNl
          go_wp2_with fail
          skip
          go_region_held3 (fun w' => w'.cell? ⟨w.heap.size, 0, none⟩ = some (.int .u16 xs) ∧ w'.cell? ⟨w.heap.size, 2, none⟩ = some (.int .u32 xp)) (first | exact ⟨m0, m2⟩ | go_keep) (fail)
          go_wp2_with (at_builtin; refine wpl_appendK (by decide) rfl (.tmp 76) (.tmp 78) 48 rfl (w.heap.size + 1) 34 i0 Z Try.underlying48 hi hz0 hz1 HZ.out _ i (flatF CX.cells lst) rfl (HROW.out _ _) _ 1 1 (CX.cells ⟨0, 4, ta, 0, xs, 0, xp, nilT, nilT, nilT, nilT, (B, k, cb), [], piece k xbs i⟩) rfl rfl (SR.new (by simp) _ _) (CX.one _) (by have := HI.out.2; unfold maxLen; omega) (by rw [hz2]; have := HI.out.2; omega) (by have := HJ.out.mb.lt; simp; omega) ?_
                       intro A2 c2 w3 ho3 hb3 _
                       have HJ3 := keep (HJ.out.app (y := ⟨0, 4, ta, 0, xs, 0, xp, nilT, nilT, nilT, nilT, (B, k, cb), [], piece k xbs i⟩) (lay2d _ _ _) ho3.out hb3 HCV.out)
                       clear ho3 hb3)
          go_roundw
          case rel => exact ⟨i + 1, A2, c2, _, _, _, rfl, rfl, HI2.out, HB2.out, keep ⟨_, HJ3.out, HCH.out⟩⟩
          case measure => exact HME.out
        · have hNl : i + 1 = cnt k xbs.length := by
            have : ¬ i + 1 < cnt k xbs.length := by
              rw [cnt_le HQ.out.1, Nat.add_mul, Nat.one_mul]
              have := HI.out.2.2
              omega
            omega
          have hT : BS w B m cb (piece k xbs i) := by
            have e : piece k xbs i = xbs.drop (i * k) := by
              unfold piece
              rw [List.take_of_length_le]
              have := HB.out.1.len
              omega
            rw [e]
            exact HB.out.1
          have HB2 := keep (BSX_drop (k := m) HB.out (Nat.le_refl _))
          rw [Nat.sub_self, List.drop_drop, List.drop_eq_nil_of_le (show xbs.length ≤ i * k + m by have := HI.out.2.2; omega), ← List.drop_eq_nil_of_le (show xbs.length ≤ (i + 1) * k by rw [Nat.add_mul, Nat.one_mul]; have := HI.out.2.2; omega)] at HB2
          have HI2 := keep (show i + 1 ≤ cnt k xbs.length ∧ i + 1 ≤ 2000 ∧ 0 = xbs.length - (i + 1) * k from ⟨hlt, by have := cnt_le_n (k := k) (n := xbs.length) HQ.out.1; have := HN.out; omega, by have := HI.out.2.2; rw [Nat.add_mul, Nat.one_mul]; omega⟩)
          have HME := keep (show 0 < m by omega)
          have e1 : ¬ (k : Int) < (m : Int) := by omega
          have e3 : (m : Int) ≤ (cb : Int) := by have := HB.out.1.cap; omega
          have e4 : (0 : Int) ≤ (m : Int) := by omega
          have e5 : (if m < k then (m : Int) else (k : Int)) = (m : Int) := by split <;> omega
          clear hlt
          have HCV := keep (show CV w ⟨0, 5, ta, 0, xs, 0, xp, nilT, nilT, nilT, nilT, (B, m, cb), [], piece k xbs i⟩ ∧ Plain ⟨0, 5, ta, 0, xs, 0, xp, nilT, nilT, nilT, nilT, (B, m, cb), [], piece k xbs i⟩ ∧ ∀ a, (⟨0, 5, ta, 0, xs, 0, xp, nilT, nilT, nilT, nilT, (B, m, cb), [], piece k xbs i⟩ : CX).da.1 = some a → ∃ a0, x1 = some a0 ∧ a0.block = a.block from ⟨⟨(show (0 : Int) ≤ 0 ∧ (0 : Int) < 256 by decide), (show (0 : Int) ≤ 5 ∧ (5 : Int) < 256 by decide), hta2, (show (0 : Int) ≤ 0 ∧ (0 : Int) < 4294967296 by decide), HX.out.st, HS.out, HX.out.pp, PR.nil _, hT⟩, ⟨rfl, rfl, rfl, rfl⟩, fun a e => HB.out.2 a e⟩)
          have HCH : Hid ((lst ++ [(⟨0, 5, ta, 0, xs, 0, xp, nilT, nilT, nilT, nilT, (B, m, cb), [], piece k xbs i⟩ : CX)]).map CX.ch = (List.range (i + 1)).map (chAt ⟨xs, true, xp, xbs⟩ tsn ssn k)) := by
            rw [List.map_append, HM.out, List.range_succ, List.map_append]
            have hfl : flg true (cnt k xbs.length) i = 5 := by unfold flg; rw [if_neg h0, if_pos hNl]; rfl
            simp only [List.map_cons, List.map_nil, CX.ch, chAt, hfl, ssnOf, hta, if_true]
            exact keep trivial
          clear hta hta2 hT hNl
          go_wp2_with fail
          skip
          go_region_held3 (fun w' => w'.cell? ⟨w.heap.size, 0, none⟩ = some (.int .u16 xs) ∧ w'.cell? ⟨w.heap.size, 2, none⟩ = some (.int .u32 xp)) (first | exact ⟨m0, m2⟩ | go_keep) (fail)
          go_wp2_with (at_builtin; refine wpl_appendK (by decide) rfl (.tmp 76) (.tmp 78) 48 rfl (w.heap.size + 1) 34 i0 Z Try.underlying48 hi hz0 hz1 HZ.out _ i (flatF CX.cells lst) rfl (HROW.out _ _) _ 1 1 (CX.cells ⟨0, 5, ta, 0, xs, 0, xp, nilT, nilT, nilT, nilT, (B, m, cb), [], piece k xbs i⟩) rfl rfl (SR.new (by simp) _ _) (CX.one _) (by have := HI.out.2; unfold maxLen; omega) (by rw [hz2]; have := HI.out.2; omega) (by have := HJ.out.mb.lt; simp; omega) ?_
                       intro A2 c2 w3 ho3 hb3 _
                       have HJ3 := keep (HJ.out.app (y := ⟨0, 5, ta, 0, xs, 0, xp, nilT, nilT, nilT, nilT, (B, m, cb), [], piece k xbs i⟩) (lay2d _ _ _) ho3.out hb3 HCV.out)
                       clear ho3 hb3)
          go_roundw
          case rel => exact ⟨i + 1, A2, c2, _, _, _, rfl, rfl, HI2.out, HB2.out, keep ⟨_, HJ3.out, HCH.out⟩⟩
          case measure => exact HME.out

theorem refSplit_ok (x : MX) (tsn ssn : Int) (k : Nat) (w : World) (hx : MV w x) (ht : 0 ≤ tsn ∧ tsn < 4294967296) (hs : 0 ≤ ssn ∧ ssn < 65536) (hk : 0 < k) (hk2 : k ≤ 1172) (h0 : 0 < x.bs.length) (hn : x.bs.length ≤ 2000) :
    Calls Try.prog 15 #[.agg x.cells.toArray, .int .u32 tsn, .int .u16 ssn, .int .i64 (k : Int)] w (SplitF w x.da.1 x.msg tsn ssn k) := by
  obtain ⟨xs, xu, xp, ⟨x1, x2, x3⟩, xbs⟩ := x
  cases xu
  · exact refSplit_false xs xp x1 x2 x3 xbs tsn ssn k w hx ht hs hk hk2 h0 hn
  · exact refSplit_true xs xp x1 x2 x3 xbs tsn ssn k w hx ht (by decide) hk hk2 h0 hn
end Go.Proofs.Ythpcblbciidmeaa
