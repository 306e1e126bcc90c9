/- KAQ of the stage: texts R3, Q13, Q19, joined. -/
import Derived.Test.YtffjdknmfmlfnaaKAP
import Derived.Test.YtffjdknmfmlfnaaKAO
import Derived.Maps.AppendAt
import Derived.Test.YtffjdknmfmlfnaaKAL
import Derived.Sort.EncStr
import Derived.Shelf.RegionOpenPlain
import Derived.Deep.LoopGhost
import Derived.Deep.RegionLaw
import Derived.Lib.SliceRun
import Derived.Lib.SlicesDelete
set_option linter.unusedSimpArgs false
set_option linter.unusedVariables false
namespace Go.Proofs.Ytffjdknmfmlfnaa
section
open Go.RowKit Go.Maps

/-- How far a floor goes on with a number. -/
def rGo (q : Rm) (cum : Int) : Int := dist32 (rFlr q) cum
/-- May all up to a number have come? -/
def rMayB (q : Rm) (cum : Int) : Bool := decide (rGo q cum ≤ (q.rs.length : Int)) && (q.rs.take (rGo q cum).toNat).all fun r => !(r.st == 0)
def rMay (q : Rm) (cum : Int) : Value := if rMayB q cum then .tuple #[.int .i64 (rGo q cum), .bool true] else .tuple #[.int .i64 0, .bool false]
theorem rGo_bd (q : Rm) (cum : Int) : 0 ≤ rGo q cum ∧ rGo q cum < 4294967296 := by unfold rGo dist32 dist; omega
section
variable {w W W' : World} {b : Nat} {s : SL} {q : Rm}
theorem rMay_far {cum : Int} (h : ¬ rGo q cum ≤ (q.rs.length : Int)) : rMay q cum = .tuple #[.int .i64 0, .bool false] := by
  unfold rMay rMayB
  rw [decide_eq_false h, Bool.false_and]
  rfl
theorem rMay_no {cum : Int} {j : Nat} {r : RE} (hj : (j : Int) < rGo q cum) (hr : q.rs[j]? = some r) (h0 : r.st = 0) : rMay q cum = .tuple #[.int .i64 0, .bool false] := by
  have h1 : (q.rs.take (rGo q cum).toNat).all (fun r => !(r.st == 0)) = false := by
    rw [List.all_eq_false]
    refine ⟨r, List.mem_of_getElem? (i := j) ?_, by simp [h0]⟩
    rw [List.getElem?_take_of_lt (by omega)]
    exact hr
  unfold rMay rMayB
  rw [h1, Bool.and_false]
  rfl
theorem rMay_ok {cum : Int} {n : Nat} (hn : rGo q cum = (n : Int)) (hl : n ≤ q.rs.length) (h : ∀ (j : Nat) r, j < n → q.rs[j]? = some r → r.st ≠ 0) : rMay q cum = .tuple #[.int .i64 (n : Int), .bool true] := by
  have h1 : (q.rs.take n).all (fun r => !(r.st == 0)) = true := by
    rw [List.all_eq_true]
    intro r hr
    obtain ⟨j, hj⟩ := List.getElem?_of_mem hr
    rw [List.getElem?_take] at hj
    split at hj
    · rename_i hjn
      simpa using h j r hjn hj
    · cases hj
  unfold rMay rMayB
  rw [hn, Int.toNat_natCast, h1, decide_eq_true (by omega)]
  rfl
set_option maxRecDepth 1000000 in
set_option maxHeartbeats 2000000 in
theorem refMay15_any (h : RA w b s q W) (cum : Int) (hcu : 0 ≤ cum ∧ cum < 4294967296) : Calls Try.prog 51 #[.pointer (some ⟨b, 0, none⟩), .int .u32 cum] W fun e w' => e = .returned (rMay q cum) ∧ ∃ k, w' = W.drewN k := by
  have HA := keep h
  have hn := h.n
  have hle := h.le
  obtain ⟨c0, _, _, _, _, _⟩ := h.b0
  have KF := keep (refFloor15_any h)
  have KD := keep (fun W' => refDist_any (rFlr q) cum (by unfold rFlr; omega) hcu.1 (by unfold rFlr; omega) hcu.2 W')
  have hg := rGo_bd q cum
  obtain ⟨n, hgn⟩ : ∃ n : Nat, rGo q cum = (n : Int) := ⟨(rGo q cum).toNat, by omega⟩
  have KDD := KD.out
  rw [show dist32 (rFlr q) cum = (n : Int) from hgn] at KDD
  replace KD := keep KDD
  have HG := keep hgn
  rw [hgn] at hg
  have hg1 : (n : Int) < 4294967296 := hg.2
  have hg0 : (0 : Int) ≤ (n : Int) := hg.1
  clear h KDD hgn hg hcu
  obtain ⟨s1, m, s3⟩ := s
  dsimp only at c0 hn
  have HN := keep hn
  have hn1 : (m : Int) ≤ 1024 := by omega
  clear hn hle
  by_cases hfar : (m : Int) < (n : Int)
  · have HO := keep (rMay_far (q := q) (cum := cum) (by rw [HG.out, ← HN.out]; omega))
    go_enter Try.func51, Try.ntmps51
    go_wp2_with (first
      | (go_at_call 30; refine KF.out.mono ?_; rintro e w1 ⟨rfl, k, rfl⟩)
      | (go_at_call 75; refine (KD.out _).mono ?_; rintro e w1 ⟨rfl, rfl⟩))
    go_ret2
    exact ⟨by rw [HO.out]; rfl, _, rfl⟩
  · have HNM := keep (show n ≤ m by omega)
    have hmn : ¬ (m : Int) < (n : Int) := hfar
    have hn2 : (n : Int) ≤ 1024 := by omega
    clear hfar hg1 hn1
    go_enter Try.func51, Try.ntmps51
    go_wp2_with (first
      | (go_at_call 30; refine KF.out.mono ?_; rintro e w1 ⟨rfl, k, rfl⟩)
      | (go_at_call 75; refine (KD.out _).mono ?_; rintro e w1 ⟨rfl, rfl⟩))
    go_loopw [7] (fun i wr => ∃ j : Nat, j ≤ n ∧ i = .int .i64 j ∧ (∀ (t : Nat) r, t < j → q.rs[t]? = some r → r.st ≠ 0) ∧ wr = W.drewN k) (fun i _ => n - (intOf i).toNat)
    case atStart => exact ⟨0, Nat.zero_le _, rfl, fun t r ht => absurd ht (Nat.not_lt_zero t), rfl⟩
    case round =>
      obtain ⟨j, hj, rfl, hall, rfl⟩ := hrel
      have HALL := keep hall
      clear hall
      by_cases hlt : j < n
      · have hjl : j < q.rs.length := by have := HN.out; have := HNM.out; omega
        obtain ⟨r, hr⟩ : ∃ r, q.rs[j]? = some r := ⟨_, List.getElem?_eq_getElem hjl⟩
        obtain ⟨g, hg, _, _, hcs, _⟩ := HA.out.at_ hr
        dsimp only at hg
        subst hg
        have y13 := hcs 13 _ (by decide) rfl
        have hjI : (j : Int) < (n : Int) := by omega
        have hjm : (j : Int) < (m : Int) := by have := HNM.out; omega
        have hj0 : (0 : Int) ≤ (j : Int) := by omega
        have HRR := keep hr
        clear hcs hr
        by_cases ha : r.st = 0
        · have h1 : (r.st == 0) = true := by simpa using ha
          have HO := keep (rMay_no (q := q) (cum := cum) (by rw [HG.out]; exact hjI) HRR.out ha)
          clear ha
          go_wp2
          go_ret2
          exact ⟨by rw [HO.out]; rfl, _, rfl⟩
        · have h1 : (r.st == 0) = false := by simpa using ha
          have HAL := keep (show ∀ (t : Nat) r, t < j + 1 → q.rs[t]? = some r → r.st ≠ 0 from fun t r' ht hr' => by
            by_cases htj : t < j
            · exact HALL.out t r' htj hr'
            · obtain rfl : t = j := by omega
              rw [HRR.out] at hr'
              injection hr' with hr'
              subst hr'
              exact ha)
          clear ha
          go_wp2
          go_roundw
          case rel => exact ⟨j + 1, by omega, by go_num, HAL.out, by first | rfl | trivial⟩
          case measure => simp [intOf]; omega
      · obtain rfl : n = j := by omega
        have HO := keep (rMay_ok (q := q) (cum := cum) HG.out (by have := HN.out; have := HNM.out; omega) HALL.out)
        go_wp2
        go_ret2
        exact ⟨by rw [HO.out]; rfl, _, rfl⟩
end
end
section
open Go.RowKit Go.Maps

/-- An append as a step of a region that draws its order; where the row lies then. -/
theorem step_appendA {P : Program} {w : World} {ops : Array Oper} {o : Oper} {a : Act} {Q : Exit → Act → World → Prop} {S : Nat} {K : Act → World → Prop} {E : Prop} (hS : 0 < S) (hgd : o.guard = none) (s x : Operand) (t : TypeId) (ho : o.op = .call { callee := .builtin .append, args := #[s, x], argTypes := #[t, t] })
    (base : Nat) (e : TypeId) (i : TypeInfo) (z : Value) (ht : P.underlying t = some (.slice e)) (hi : P.info? e = some i) (hz : i.zero = some z) (hsize : i.size = S) (hz1 : z.cells.size = S)
    (v : Value) (n : Nat) (xs : List Value) (hs : a.eval s = v) (hown : w.ownsRow base e S v n xs) (b : Addr) (m c : Nat) (news : List Value) (hx : a.eval x = .slice (some b) m c) (hm : news.length = m * S) (hr : ∀ j u, news[j]? = some u → w.cell? (b.add j) = some u) (h1 : ∀ u ∈ news, u.oneCell' = true)
    (h63 : n + m ≤ maxLen) (hbytes : (n + m) * i.bytes ≤ 140737488355328) (hbase : base ≤ w.heap.size)
    (h : ∀ A' c' w', w'.ownsRow base e S (.slice A' (n + m) c') (n + m) (xs ++ news) → w.grownBy w' v.ownBlock → ((Value.slice A' (n + m) c').ownBlock = v.ownBlock ∨ (Value.slice A' (n + m) c').ownBlock = some w.heap.size) → K (a.put o.dst (.slice A' (n + m) c')) w') : if Region.wanted o (yielded ops a.tmps) = true then Oper.wp P o a w K Q else E := by
  have hw : Region.wanted o (yielded ops a.tmps) = true := by simp [Region.wanted, hgd]
  rw [if_pos hw]
  obtain ⟨v', w', hrun, h2, h3, _, h5⟩ := run_append_own_at (P := P) w base t o.type e i z S i.bytes ht hi hz hsize rfl hz1 hS v n xs hown b m c news hm hr h1 h63 hbytes hbase
  obtain ⟨A', c', rfl, _⟩ := own_shape2' h2
  unfold Oper.wp execOp
  simp only [ho, resolve, invoke, builtin, Sem.run_bind, Sem.run_pure, Result.andThen_ok, List.map_toArray, List.map_cons, List.map_nil, hs, hx, hrun]
  exact h A' c' w' h2 h3 h5
theorem laid4 (w : World) (t : TypeId) (x0 x1 x2 x3 : Value) : ∀ j u, [x0, x1, x2, x3][j]? = some u → (w.alloc (.cells #[x0, x1, x2, x3] t)).cell? ((⟨w.heap.size, 0, none⟩ : Addr).add j) = some u := by
  intro j u hj
  rw [Addr.add_lit, Nat.zero_add, cell_of_row _ _ _ _ _ _ (heap_alloc_new w _)]
  simpa using hj
def unfitB (x : CZ) : Bool := x.kd != 0 || x.da.2.1 == 0
theorem unfit_any (x : CZ) (w : World) : Calls Try.prog 36 #[.agg x.cells.toArray] w fun e w' => e = .returned (.bool (unfitB x)) ∧ Below w.heap.size w w' := by
  have HB := keep (below_lay w (.cells x.cells.toArray 45))
  obtain ⟨xk, xf, xa, xb, xo, xs, xp, ⟨x1, x2, x3⟩, ⟨x4, x5, x6⟩, ⟨x7, x8, x9⟩, ⟨x10, x11, x12⟩, ⟨x13, x14, x15⟩, xbl, xdu, xsk, xpr, xbs⟩ := x
  dsimp only [CZ.cells, unfitB] at *
  by_cases h : xk = 0
  · subst h
    go_enter Try.func36, Try.ntmps36
    go_wp2
    all_goals (go_ret; exact ⟨ret_bool (by rw [Bool.eq_iff_iff]; simp), HB.out⟩)
  · have h' : (xk != 0) = true := by simpa using h
    clear h
    go_enter Try.func36, Try.ntmps36
    go_wp2
    all_goals (go_ret; exact ⟨ret_bool (by simp [h']), HB.out⟩)
theorem cIndex_any (s : SL) (l : List CZ) (w : World) (h : ZS w s l) (hn : s.2.1 ≤ 1000000) :
    Calls Try.prog 57 #[.slice s.1 s.2.1 s.2.2, .func (.func 36) #[] #[]] w fun e w' => (∃ z : Int, e = .returned (.int .i64 z) ∧ Hid (0 ≤ z ↔ l.any unfitB = true)) ∧ Below w.heap.size w w' := by
  have H := keep h
  have HL := keep h.1.1
  clear h
  obtain ⟨s1, n, s3⟩ := s
  dsimp only at HL hn ⊢
  go_enter Try.func57, Try.ntmps57
  go_wp2
  go_loopw [5, 8] (fun _ i wr => ∃ j : Nat, j ≤ n ∧ i = .int .i64 j ∧ Hid (∀ y ∈ l.take j, unfitB y = false) ∧ Below w.heap.size w wr) (fun _ i _ => n - (intOf i).toNat)
  case atStart => exact ⟨0, Nat.zero_le _, rfl, keep (by simp), Below.refl _ _⟩
  case round =>
    obtain ⟨j, hj, rfl, hno, hb⟩ := hrel
    have HB := keep hb
    clear hb
    by_cases hlt : j < n
    · obtain ⟨b, o, x, hA, hbl, hz, hlj, _⟩ := (H.out.step HB.out).at_ hlt
      dsimp only at hA
      subst hA
      have HJ := keep hlj
      have KU := fun w => unfit_any x w
      obtain ⟨r, hr⟩ : ∃ r, r = unfitB x := ⟨_, rfl⟩
      rw [← hr] at KU
      have HR := keep hr
      replace KU := keep KU
      clear hr hlj
      obtain ⟨xk, xf, xa, xb, xo, xs, xp, ⟨x1, x2, x3⟩, ⟨x4, x5, x6⟩, ⟨x7, x8, x9⟩, ⟨x10, x11, x12⟩, ⟨x13, x14, x15⟩, xbl, xdu, xsk, xpr, xbs⟩ := x
      dsimp only [Z12] at hz
      dsimp only [CZ.cells] at KU
      obtain ⟨z0, z1, z2, z3, z4, z5, z6, z7, z8, z9, z10, z11⟩ := hz
      cases r
      · go_wp2_with (go_at_call 36; refine (KU.out _).mono ?_; rintro e w1 ⟨rfl, hb1⟩; replace hb1 := keep hb1)
        go_roundw
        case rel =>
          refine ⟨j + 1, by omega, by go_num, keep fun y hy => ?_, HB.out.trans (hb1.out.mono HB.out.size)⟩
          rw [List.take_add_one, HJ.out] at hy
          rcases List.mem_append.1 hy with hy | hy
          · exact hno.out y hy
          · simp at hy
            rw [hy, HR.out]
        case measure => simp [intOf]; omega
      · go_wp2_with (go_at_call 36; refine (KU.out _).mono ?_; rintro e w1 ⟨rfl, hb1⟩; replace hb1 := keep hb1)
        go_ret
        exact ⟨⟨_, rfl, keep ⟨fun _ => List.any_eq_true.2 ⟨_, List.mem_of_getElem? HJ.out, HR.out.symm⟩, fun _ => by omega⟩⟩, HB.out.trans (hb1.out.mono HB.out.size)⟩
    · obtain rfl : n = j := by omega
      go_wp2
      go_ret
      have hno := hno.out
      rw [List.take_of_length_le (by have := HL.out; omega)] at hno
      refine ⟨⟨_, rfl, keep ⟨fun h => absurd h (by decide), fun h => ?_⟩⟩, HB.out⟩
      obtain ⟨y, hy, hu⟩ := List.any_eq_true.1 h
      rw [hno y hy] at hu
      cases hu
theorem cContains_any (s : SL) (l : List CZ) (w : World) (h : ZS w s l) (hn : s.2.1 ≤ 1000000) :
    Calls Try.prog 35 #[.slice s.1 s.2.1 s.2.2, .func (.func 36) #[] #[]] w fun e w' => e = .returned (.bool (l.any unfitB)) ∧ Below w.heap.size w w' := by
  have K := keep (cIndex_any s l w h hn)
  clear h hn
  go_enter Try.func35, Try.ntmps35
  go_wp2_with (go_at_call 57; refine K.out.mono ?_; rintro e w1 ⟨⟨z, rfl, hz⟩, hb1⟩; replace hb1 := keep hb1)
  go_ret
  refine ⟨ret_bool ?_, hb1.out⟩
  rw [Bool.eq_iff_iff, decide_eq_true_eq]
  exact hz.out
end
section
open Go.RowKit Go.Maps

def setM : List Value → Nat → List Value → List Value
  | xs, _, [] => xs
  | xs, o, v :: r => setM (xs.set o v) (o + 1) r
theorem setM_len : ∀ (vs : List Value) (o : Nat) (xs : List Value), (setM xs o vs).length = xs.length
  | [], _, _ => rfl
  | v :: r, o, xs => by rw [setM, setM_len r, List.length_set]
theorem setM_get : ∀ (vs : List Value) (o : Nat) (xs : List Value) (t : Nat), (setM xs o vs)[t]? = if o ≤ t ∧ t < o + vs.length ∧ t < xs.length then vs[t - o]? else xs[t]?
  | [], o, xs, t => by
    rw [setM, if_neg (by rintro ⟨h1, h2, _⟩; simp at h2; omega)]
  | v :: r, o, xs, t => by
    rw [setM, setM_get r, List.length_set, List.getElem?_set]
    simp only [List.length_cons]
    by_cases h : o = t
    · subst h
      rw [if_neg (by omega), if_pos rfl]
      by_cases hl : o < xs.length
      · rw [if_pos hl, if_pos (by omega), Nat.sub_self]
        rfl
      · rw [if_neg hl, if_neg (by omega), List.getElem?_eq_none (by omega)]
    · rw [if_neg h]
      by_cases h2 : o ≤ t ∧ t < o + (r.length + 1) ∧ t < xs.length
      · rw [if_pos (by omega), if_pos h2, show t - o = (t - (o + 1)) + 1 by omega]
        rfl
      · rw [if_neg (by omega), if_neg h2]
theorem own_setCells {base : Nat} {e : TypeId} {K g n c : Nat} : ∀ (vs : List Value) (o : Nat) (xs : List Value) (W : World), W.ownsRow base e K (.slice (some ⟨g, 0, none⟩) n c) n xs → (W.setCells g o vs).ownsRow base e K (.slice (some ⟨g, 0, none⟩) n c) n (setM xs o vs)
  | [], _, _, _, h => h
  | v :: r, o, xs, W, h => own_setCells r (o + 1) (xs.set o v) (W.setCell ⟨g, o, none⟩ v) (own_set h o v)
theorem part_setCells (g : Nat) : ∀ (vs : List Value) (o : Nat) (W : World), Part (fun i => i = g) W (W.setCells g o vs)
  | [], _, W => Part.refl _ W
  | v :: r, o, W => (part_set W g o v).trans (part_setCells g r (o + 1) _) fun i hi => .inl hi
theorem own_take {W : World} {base : Nat} {e : TypeId} {g n c m : Nat} {xs : List Value} (h : W.ownsRow base e 1 (.slice (some ⟨g, 0, none⟩) n c) n xs) (hm : m ≤ n) : W.ownsRow base e 1 (.slice (some ⟨g, 0, none⟩) m c) m (xs.take m) := by
  have h1 := h.1
  refine ⟨by rw [List.length_take]; omega, ?_⟩
  rcases h.2 with ⟨h0, _⟩ | ⟨g', cap, cur, hv, hb, hg, hnc, hmx, hsz, ht⟩
  · cases h0
  · injection hv with hv _ hc
    injection hv with hv
    injection hv with hv
    subst hv hc
    refine .inr ⟨g, c, cur, rfl, hb, hg, by omega, hmx, hsz, ?_⟩
    rw [← ht, List.take_take, Nat.mul_one, Nat.mul_one, Nat.min_eq_left hm]
theorem del_list (xs : List Value) (k n : Nat) (hn : xs.length = n) (hk : k ≤ n) (z : Value) : (setM (setM xs 0 (xs.drop k)) (n - k) (List.replicate k z)).take (n - k) = xs.drop k := by
  apply List.ext_getElem?
  intro t
  rw [List.getElem?_take]
  by_cases h : t < n - k
  · rw [if_pos h, setM_get, if_neg (by omega), setM_get, List.length_drop, if_pos (by omega), Nat.sub_zero]
  · rw [if_neg h, List.getElem?_drop, List.getElem?_eq_none (by omega)]
theorem del_info : (Try.prog.info? 75).map (fun i => (i.zero, i.size, i.bytes)) = some (some (.pointer none), 1, 8) := by kernel_rfl
theorem del_zero : ∀ w, (zeroValue 75).run Try.prog w = .ok (.pointer none) w := fun w => by first | kernel_rfl | rfl
theorem Delete_zero (v : Value) (A : Option Addr) (n c : Nat) (w : World) (hv : v = .slice A n c) (hnc : n ≤ c) (hc : c ≤ 9223372036854775807) :
    Calls Try.prog 67 #[v, .int .i64 0, .int .i64 0] w fun e w' => e = .returned v ∧ w = w' := by
  subst hv
  go_enter Try.func67, Try.ntmps67
  go_wp2
  all_goals (go_ret; exact ⟨rfl, rfl⟩)
set_option maxHeartbeats 4000000 in
set_option maxRecDepth 1000000 in
theorem Delete_some (g n c k : Nat) (xs : List Value) (w : World) (h : w.ownsRow 0 75 1 (.slice (some ⟨g, 0, none⟩) n c) n xs) (h1 : ∀ u ∈ xs, u.oneCell' = true) (hk : k ≤ n) (hk0 : 0 < k) :
    Calls Try.prog 67 #[.slice (some ⟨g, 0, none⟩) n c, .int .i64 0, .int .i64 k] w fun e w' => e = .returned (.slice (some ⟨g, 0, none⟩) (n - k) c) ∧ w'.ownsRow 0 75 1 (.slice (some ⟨g, 0, none⟩) (n - k) c) (n - k) (xs.drop k) ∧ Part (fun i => i = g) w w' := by
  have mixed : Try.prog.follows .mixedOrders = true := by kernel_rfl
  obtain ⟨i0, hi0, hz0, hz1, hz2⟩ := info_parts del_info
  have hxl : xs.length = n := by have := h.1; omega
  obtain ⟨cur, hcur, hsz, hnc, hmx⟩ : ∃ cur, w.heap[g]? = some (.cells cur 75 (0, 0)) ∧ cur.size = c ∧ n ≤ c ∧ c ≤ 9223372036854775807 := by
    rcases h.2 with ⟨h0, _⟩ | ⟨g', cap, cur, hv, hb, hg, hnc, hm, hsz, ht⟩
    · cases h0
    · injection hv with hv _ hc
      injection hv with hv
      injection hv with hv
      subst hv hc
      exact ⟨cur, hg, by omega, hnc, by unfold maxLen at hm; omega⟩
  have some_ : ∀ (W : World) (cs : Array Value) (j : Nat), W.heap[g]? = some (.cells cs 75 (0, 0)) → cs.size = c → j < c → (W.cell? ⟨g, j, none⟩).isSome = true ∧ W.frozen? ⟨g, j, none⟩ = false := fun W cs j hW hs hj => ⟨by rw [cell_of_row _ _ _ _ _ _ hW, Array.getElem?_eq_getElem (by omega)]; rfl, upd_fz hW j⟩
  have at_ : ∀ j v, xs[j]? = some v → w.cell? ⟨g, j, none⟩ = some v := by
    intro j v hj
    have hne : xs ≠ [] := by rintro rfl; simp at hj
    obtain ⟨g', e1, _, h3, _⟩ := own_row_at h hne
    injection e1 with e1
    injection e1 with e1
    subst e1
    exact h3 j v hj
  obtain ⟨news, hnews⟩ : ∃ news, news = xs.drop k := ⟨_, rfl⟩
  have hlen : news.length = n - k := by rw [hnews, List.length_drop, hxl]
  obtain ⟨A, hA, hsrc⟩ : ∃ A : Addr, (if c = k then some (⟨g, 0, none⟩ : Addr) else some ⟨g, k, none⟩) = some A ∧ Hid (∀ t u, news[t]? = some u → w.drew.cell? (A.add t) = some u) := by
    by_cases h : c = k
    · refine ⟨⟨g, 0, none⟩, by simp [h], fun t u hu => ?_⟩
      have h0 : news.length = 0 := by rw [hlen]; omega
      rw [List.length_eq_zero_iff.1 h0] at hu
      simp at hu
    · refine ⟨⟨g, k, none⟩, by simp [h], fun t u hu => ?_⟩
      rw [hnews, List.getElem?_drop] at hu
      rw [Addr.add_lit]
      exact at_ (k + t) u hu
  have s1 : Hid (news.length = (n - k) * 1) := by rw [Nat.mul_one]; exact hlen
  have s2 : Hid (∀ u ∈ news, u.oneCell' = true) := fun u hu => h1 u (by rw [hnews] at hu; exact List.mem_of_mem_drop hu)
  have s3 : Hid (∀ t, t < news.length → (w.drew.cell? ⟨g, 0 + 0 * 1 + t, none⟩).isSome = true ∧ w.drew.frozen? ⟨g, 0 + 0 * 1 + t, none⟩ = false) := fun t ht => some_ w.drew cur _ hcur hsz (by omega)
  obtain ⟨W1, hW1⟩ : ∃ W1, W1 = w.drew.setCells g (0 + 0 * 1) news := ⟨_, rfl⟩
  have hO1 : W1.ownsRow 0 75 1 (.slice (some ⟨g, 0, none⟩) n c) n (setM xs 0 news) := by
    rw [hW1]
    exact own_setCells news _ xs w.drew h
  obtain ⟨cur1, hcur1, hsz1⟩ : ∃ cur, W1.heap[g]? = some (.cells cur 75 (0, 0)) ∧ cur.size = c := by
    rcases hO1.2 with ⟨h0, _⟩ | ⟨g', cap, cur, hv, hb, hg, hnc, hm, hsz, ht⟩
    · cases h0
    · injection hv with hv _ hc
      injection hv with hv
      injection hv with hv
      subst hv hc
      exact ⟨cur, hg, by omega⟩
  have hcl : ∀ ty, (Builtin.clear_ #[54] ty #[.slice (some ⟨g, n - k, none⟩) k (c - (n - k))]).run Try.prog W1 = .ok (.tuple #[]) (W1.setCells g (n - k) (List.replicate k (.pointer none))) :=
    fun ty => Lib.run_clear_slice W1 _ _ ty _ Try.underlying54 del_zero rfl rfl g (n - k) _ _ hk0 (fun t ht => (some_ W1 cur1 _ hcur1 hsz1 (by omega)).1) (fun t ht => (some_ W1 cur1 _ hcur1 hsz1 (by omega)).2)
  have hkk : n - (n - k) = k := by omega
  have hP : Part (fun i => i = g) w (W1.setCells g (n - k) (List.replicate k (.pointer none))) := by
    rw [hW1]
    exact ((show Part (fun i => i = g) w w.drew from Part.of_below _ (Below.refl _ w).drew).trans (part_setCells g news _ w.drew) fun i hi => .inl hi).trans (part_setCells g _ _ _) fun i hi => .inl hi
  have hF := own_take (m := n - k) (own_setCells (List.replicate k (.pointer none)) (n - k) _ W1 hO1) (by omega)
  rw [hnews, del_list xs k n hxl hk] at hF
  have HFI := keep (And.intro hF hP)
  have hW : Hid (W1 = w.drew.setCells g (0 + 0 * 1) news) := hW1
  have hnk : ((n - k : Nat) : Int) = (n : Int) - k := by omega
  clear hW1 hF hP hO1 hcur1 hsz1 hcur hsz at_ some_ hnews hlen h h1 hxl
  go_enter Try.func67, Try.ntmps67
  go_wp2_with fail
  go_region_law_o (refine step_append_room rfl (.tmp 22) (.tmp 25) 54 rfl 75 i0 1 Try.underlying54 hi0 hz1 g 0 0 c (by simp [Act.eval, Act.put]) A (n - k) (c - k) news (by simp [Act.eval, Act.put, hA]) s1.out hsrc.out s2.out (by omega) s3.out ?_; rw [← hW.out])
  go_wp2
  go_ret
  exact ⟨rfl, HFI.out.1, HFI.out.2⟩
end
end Go.Proofs.Ytffjdknmfmlfnaa
