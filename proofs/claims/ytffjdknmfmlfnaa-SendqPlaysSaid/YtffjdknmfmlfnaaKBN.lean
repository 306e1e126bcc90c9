/- KBN of the stage: texts R9, joined. -/
import Derived.Test.YtffjdknmfmlfnaaKBM
import Derived.Test.YtffjdknmfmlfnaaKAX
set_option linter.unusedSimpArgs false
set_option linter.unusedVariables false
namespace Go.Proofs.Ytffjdknmfmlfnaa
section
open Go.RowKit Go.Maps

theorem results_tmp5 {fn : Func} {t u x y z : Tmp} (h : fn.results = #[.tmp t, .tmp u, .tmp x, .tmp y, .tmp z]) (tmps : Array Value) (P : Program) (w : World) :
    (results fn tmps).run P w = .ok (.tuple #[tmps.getD t undef, tmps.getD u undef, tmps.getD x undef, tmps.getD y undef, tmps.getD z undef]) w := by simp [results, h]
theorem wrap_eq (x : Int) : wrap64 x = IntKind.i64.wrap x := by
  simp [IntKind.wrap, IntKind.signed, IntKind.bits, wrap64]
  split <;> omega
theorem RE.one (x : RE) : ∀ u ∈ x.cells, u.oneCell' = true := by
  intro u hu
  simp only [RE.cells, CZ.cells, List.cons_append, List.nil_append, List.mem_cons, List.not_mem_nil, or_false] at hu
  rcases hu with rfl | rfl | rfl | rfl | rfl | rfl | rfl | rfl | rfl | rfl | rfl | rfl | rfl | rfl | rfl | rfl | rfl | rfl | rfl <;> rfl
/-- The first i entries are as f makes them, by their places. -/
def upX (f : Nat → RE → RE) (l : List RE) (i : Nat) : List RE := (l.take i).mapIdx f ++ l.drop i
theorem upX_zero (f : Nat → RE → RE) (l : List RE) : upX f l 0 = l := by unfold upX; simp
theorem upX_all (f : Nat → RE → RE) (l : List RE) : upX f l l.length = l.mapIdx f := by unfold upX; simp
theorem upX_len (f : Nat → RE → RE) (l : List RE) (i : Nat) : (upX f l i).length = l.length := by
  unfold upX
  rw [List.length_append, List.length_mapIdx, List.length_take, List.length_drop]
  omega
theorem upX_at {f : Nat → RE → RE} {l : List RE} {i : Nat} {r : RE} (h : l[i]? = some r) : (upX f l i)[i]? = some r := by
  have h1 := (List.getElem?_eq_some_iff.1 h).1
  have h2 : ((l.take i).mapIdx f).length = i := by rw [List.length_mapIdx, List.length_take]; omega
  unfold upX
  rw [List.getElem?_append_right (by omega), h2, Nat.sub_self, List.getElem?_drop, Nat.add_zero, h]
theorem upX_next {f : Nat → RE → RE} {l : List RE} {i : Nat} {r : RE} (h : l[i]? = some r) : upX f l (i + 1) = (upX f l i).set i (f i r) := by
  have h1 := (List.getElem?_eq_some_iff.1 h).1
  have h2 : ((l.take i).mapIdx f).length = i := by rw [List.length_mapIdx, List.length_take]; omega
  unfold upX
  rw [List.set_append_right _ _ (by omega), h2, Nat.sub_self, drop_at h, List.take_add_one, h, Option.toList_some, List.mapIdx_append, List.length_take, Nat.min_eq_left (by omega)]
  simp
theorem upX_same {f : Nat → RE → RE} {l : List RE} {i : Nat} {r : RE} (h : l[i]? = some r) (hr : f i r = r) : upX f l (i + 1) = upX f l i := by
  rw [upX_next h, hr]
  have h1 := upX_at (f := f) h
  obtain ⟨h2, h3⟩ := List.getElem?_eq_some_iff.1 h1
  rw [← h3]
  exact List.set_getElem_self h2
section
variable {w W W' : World} {b : Nat} {s : SL} {q : Rm}
theorem RA.sr (h : RA w b s q W) {k : Nat} (hk : k < q.rs.length) : ∃ g, s.1 = some ⟨g, 0, none⟩ ∧ SR W (some ⟨g, k * 19, none⟩) (flatF RE.cells (q.rs.drop k)) := by
  obtain ⟨g, h1, _, h3, _, cur, h5⟩ := own_row_at h.row (fun h0 => by have h9 := flatF_len (f := RE.cells) RE.len q.rs; rw [h0] at h9; simp at h9; omega)
  refine ⟨g, h1, fun _ => ⟨g, k * 19, rfl, (Array.getElem?_eq_some_iff.1 h5).1, fun j u hu => h3 _ _ ?_⟩⟩
  rw [← hu, ← flatF_drop RE.len, List.getElem?_drop]
theorem RA.rerow (h : RA w b s q W) {w5 : World} {A' : Option Addr} {n' c' : Nat} {rs' : List RE} (hb : Below W.heap.size W w5) (ho : w5.ownsRow W.heap.size 91 19 (.slice A' n' c') n' (flatF RE.cells rs')) (hs : ∀ r ∈ rs', r ∈ q.rs) (hl : rs'.length ≤ 1024) :
    RA w b (A', n', c') { q with rs := rs' } (w5.setCell ⟨b, 0, none⟩ (.slice A' n' c')) ∧ Part (Rb b s) W (w5.setCell ⟨b, 0, none⟩ (.slice A' n' c')) ∧ ∀ i, Rb b (A', n', c') i → Rb b s i ∨ W.heap.size ≤ i := by
  have hbW := (Array.getElem?_eq_some_iff.1 h.blk).1
  have hb5 := (hb.block b hbW).trans h.blk
  have hps := part_set w5 b 0 (.slice A' n' c')
  have hpt : Part (Rb b s) W (w5.setCell ⟨b, 0, none⟩ (.slice A' n' c')) := (Part.of_below (Rb b s) hb).trans hps fun i hi => .inl (.inl hi)
  refine ⟨⟨heap_setCell_same w5 b 0 _ _ _ hb5, h.lo, ?_, h.bl.trans (hpt.below h.bl.size fun i hi => ?_), fun x hx => h.zv x (hs x hx), h.nx, hl⟩, hpt, fun i hi => ?_⟩
  · exact hps.own (own_mono ho h.bl.size) fun g hg e => by
      have := (ho.lt g hg).1
      omega
  · rcases hi with rfl | hi
    · exact h.lo
    · exact (h.row.lt i hi).1
  · rcases hi with hi | hi
    · exact .inl (.inl hi)
    · exact .inr (ho.lt i hi).1
theorem RA.two (h : RA w b s q W) {i : Nat} {r : RE} (hr : q.rs[i]? = some r) {g : Nat} (hg : s.1 = some ⟨g, 0, none⟩) :
    RA w b s { q with rs := q.rs.set i { r with st := 1, ms := 0 } } ((W.setCell ⟨g, i * 19 + 13, none⟩ (.int .i64 1)).setCell ⟨g, i * 19 + 16, none⟩ (.int .i64 0)) ∧ Part (fun k => k = g) W ((W.setCell ⟨g, i * 19 + 13, none⟩ (.int .i64 1)).setCell ⟨g, i * 19 + 16, none⟩ (.int .i64 0)) := by
  have hl := (List.getElem?_eq_some_iff.1 hr).1
  obtain ⟨a1, p1⟩ := h.set hr (r' := { r with st := 1 }) hg 13 (.int .i64 1) (by decide) rfl rfl
  obtain ⟨a2, p2⟩ := a1.set (List.getElem?_set_self hl) (r' := { r with st := 1, ms := 0 }) hg 16 (.int .i64 0) (by decide) rfl rfl
  dsimp only at a2
  rw [set_set'] at a2
  exact ⟨a2, p1.trans p2 fun k hk => .inl hk⟩
theorem RA.twoM (h : RA w b s q W) {i : Nat} {r : RE} (hr : q.rs[i]? = some r) {g : Nat} (hg : s.1 = some ⟨g, 0, none⟩) (v : Int) :
    RA w b s { q with rs := q.rs.set i { r with ms := v, st := 2 } } ((W.setCell ⟨g, i * 19 + 16, none⟩ (.int .i64 v)).setCell ⟨g, i * 19 + 13, none⟩ (.int .i64 2)) ∧ Part (fun k => k = g) W ((W.setCell ⟨g, i * 19 + 16, none⟩ (.int .i64 v)).setCell ⟨g, i * 19 + 13, none⟩ (.int .i64 2)) := by
  have hl := (List.getElem?_eq_some_iff.1 hr).1
  obtain ⟨a1, p1⟩ := h.set hr (r' := { r with ms := v }) hg 16 (.int .i64 v) (by decide) rfl rfl
  obtain ⟨a2, p2⟩ := a1.set (List.getElem?_set_self hl) (r' := { r with ms := v, st := 2 }) hg 13 (.int .i64 2) (by decide) rfl rfl
  dsimp only at a2
  rw [set_set'] at a2
  exact ⟨a2, p1.trans p2 fun k hk => .inl hk⟩
theorem rCb_le {bl : List (Int × Int)} {rs : List RE} (hs : ∀ r ∈ rs, r.c.da.2.1 ≤ 1000000) : ∀ j, rCb bl rs j ≤ j * 1000000
  | 0 => Nat.zero_le _
  | j + 1 => by
    rw [rCb, Nat.add_mul, Nat.one_mul]
    refine Nat.add_le_add (rCb_le hs j) ?_
    cases hr : rs[j]? with
    | none => exact Nat.zero_le _
    | some r =>
      dsimp only
      split
      · exact hs r (List.mem_of_getElem? hr)
      · exact Nat.zero_le _
theorem rTop_lo (bl : List (Int × Int)) (rs : List RE) : ∀ i, -1 ≤ rTop bl rs i ∧ rTop bl rs i < (i : Int)
  | 0 => ⟨Int.le_refl _, by show (-1 : Int) < 0; omega⟩
  | i + 1 => by
    have := rTop_lo bl rs i
    rw [rTop]
    split
    · split <;> omega
    · omega
theorem mis_off {top : Int} {i : Nat} (h : ¬ (i : Int) < top) (r : RE) : rMis top i r = r := by unfold rMis; rw [if_neg fun hc => h hc.1]
/-- Behind the farthest one nothing is missed. -/
theorem upX_far {top : Int} {M : List RE} {j : Nat} (hj : j ≤ M.length) (h : top ≤ (j : Int)) : upX (rMis top) M j = M.mapIdx (rMis top) := by
  apply List.ext_getElem?
  intro i
  unfold upX
  rw [List.getElem?_mapIdx]
  by_cases hi : i < j
  · rw [List.getElem?_append_left (by rw [List.length_mapIdx, List.length_take]; omega), List.getElem?_mapIdx, List.getElem?_take, if_pos hi]
  · rw [List.getElem?_append_right (by rw [List.length_mapIdx, List.length_take]; omega), List.length_mapIdx, List.length_take, Nat.min_eq_left hj, List.getElem?_drop, show j + (i - j) = i by omega]
    cases M[i]? with
    | none => rfl
    | some r => exact congrArg some (mis_off (by omega) r).symm
theorem rLo_far {top : Int} {M : List RE} {j : Nat} (h : top ≤ (j : Int)) : ∀ i, j ≤ i → rLo top M i = rLo top M j := by
  intro i hi
  induction i with
  | zero => obtain rfl : j = 0 := by omega
            rfl
  | succ i ih =>
    by_cases hji : j = i + 1
    · rw [hji]
    · rw [rLo, ih (by omega)]
      cases M[i]? with
      | none => rw [Bool.or_false]
      | some r => dsimp only; rw [decide_eq_false (by omega), Bool.or_false]
/-- What the document's Ack tells, and leaves. -/
structure RkP (w W : World) (b : Nat) (s : SL) (q : Rm) (rs' : List RE) (w' : World) : Prop where
  ex : ∃ s', RA w b s' { q with rs := rs' } w' ∧ Part (Rb b s) W w' ∧ ∀ i, Rb b s' i → Rb b s i ∨ W.heap.size ≤ i
set_option maxRecDepth 100000 in
theorem refAck15_no (h : RA w b s q W) (cum now : Int) (hcu : 0 ≤ cum ∧ cum < 4294967296) {A : Option Addr} {n c : Nat} (hno : rMayB q cum = false) :
    Calls Try.prog 20 #[.pointer (some ⟨b, 0, none⟩), .int .u32 cum, .slice A n c, .int .i64 now] W fun e w' => e = .returned (.tuple #[.int .i64 0, .int .i64 0, .bool false, .bool false, .bool false]) ∧ ∃ k, w' = W.drewN k := by
  have KM := refMay15_any h cum hcu
  have hm : rMay q cum = .tuple #[.int .i64 0, .bool false] := by unfold rMay; rw [hno]; rfl
  rw [hm] at KM
  replace KM := keep KM
  clear h hcu hno hm
  go_enter Try.func20, Try.ntmps20
  go_wp2_with (go_at_call 51; refine KM.out.mono ?_; rintro e w1 ⟨rfl, k, rfl⟩)
  exact bodyPost_ret (results_tmp5 rfl _ _ _) rfl ⟨rfl, k, rfl⟩
set_option maxRecDepth 100000 in
set_option maxHeartbeats 16000000 in
theorem refAck15_any (h : RA w b s q W) (cum now : Int) (hcu : 0 ≤ cum ∧ cum < 4294967296) {A : Option Addr} {n c : Nat} {bl : List (Int × Int)} (hl : LR blC w (A, n, c) bl) (hok : BlOK bl) (hn : n ≤ 1000) {k : Nat} (hk : rGo q cum = (k : Int)) (hyes : rMayB q cum = true) :
    Calls Try.prog 20 #[.pointer (some ⟨b, 0, none⟩), .int .u32 cum, .slice A n c, .int .i64 now] W fun e w' => e = .returned (.tuple #[.int .i64 ((rBy (q.rs.take k) k + rCb bl (q.rs.drop k) (q.rs.drop k).length : Nat) : Int), .int .i64 (rSa now (q.rs.take k) k), .bool (rLo (rTop bl (q.rs.drop k) (q.rs.drop k).length) ((q.rs.drop k).mapIdx (rCome bl)) ((q.rs.drop k).mapIdx (rCome bl)).length), .bool (decide (0 < k)), .bool true]) ∧ Hid (RkP w W b s q (rAk q k bl) w') := by
  have KM := refMay15_any h cum hcu
  have hm : rMay q cum = .tuple #[.int .i64 (k : Int), .bool true] := by unfold rMay; rw [hyes, hk]; rfl
  rw [hm] at KM
  replace KM := keep KM
  have hkl : k ≤ q.rs.length := by
    unfold rMayB at hyes
    rw [Bool.and_eq_true, decide_eq_true_eq, hk] at hyes
    omega
  have HKL := keep hkl
  have HA := keep h
  have hmm := h.n
  have hle := h.le
  have HL0 := keep hl
  have HL := keep (hl.kept (ok := fun _ => True) (Kpt.of_below h.bl) (InF.all _))
  have HOK := keep hok
  have HDA := keep (fun r hr => (h.zv r hr).2.da)
  clear h hcu hyes hm hk hl hok
  obtain ⟨s1, m, s3⟩ := s
  dsimp only at hmm
  have HN := keep hmm
  have hm1 : (m : Int) ≤ 1024 := by omega
  have hkm : (k : Int) ≤ (m : Int) := by omega
  have hn1 : (n : Int) ≤ 1000 := by omega
  clear hmm hle hkl hn
  obtain ⟨e0, he0, ez0, ez1, ez2⟩ := info_parts entry_info
  go_enter Try.func20, Try.ntmps20
  go_wp2_with (go_at_call 51; refine KM.out.mono ?_; rintro e w1 ⟨rfl, kk, rfl⟩)
  obtain ⟨W0, hW0⟩ : ∃ W0, W.drewN kk = W0 := ⟨_, rfl⟩
  have HB0 := keep (show Below W.heap.size W W0 from by rw [← hW0]; exact ⟨rfl, rfl, rfl, Nat.le_refl _, fun _ _ => rfl⟩)
  rw [hW0]
  clear hW0
  have hbyb : ∀ j, rBy (q.rs.take k) j ≤ j * 1000000 := fun j => by
    induction j with
    | zero => exact Nat.zero_le _
    | succ j ih =>
      rw [rBy, Nat.add_mul, Nat.one_mul]
      refine Nat.add_le_add ih ?_
      cases hr : (q.rs.take k)[j]? with
      | none => exact Nat.zero_le _
      | some r =>
        dsimp only
        split
        · exact Nat.zero_le _
        · exact HDA.out r (List.mem_of_mem_take (List.mem_of_getElem? hr))
  have HBY := keep hbyb
  clear hbyb
  go_loopw [15, 16, 17, 18] (fun by_ sa i _ wr => ∃ j : Nat, j ≤ k ∧ i = .int .i64 j ∧ by_ = .int .i64 ((rBy (q.rs.take k) j : Nat) : Int) ∧ sa = .int .i64 (rSa now (q.rs.take k) j) ∧ Hid (Below W.heap.size W wr)) (fun _ _ i _ _ => k - (intOf i).toNat)
  case atStart => exact ⟨0, Nat.zero_le _, rfl, rfl, rfl, HB0⟩
  case round =>
    clear HB0
    obtain ⟨j, hj, rfl, rfl, rfl, HW⟩ := hrel
    have HAk := keep (HA.out.step HW.out)
    obtain ⟨c0, _, _, f0, _, _⟩ := HAk.out.b0
    dsimp only at c0
    by_cases hlt : j < k
    · have hjl : j < q.rs.length := by have := HKL.out; omega
      obtain ⟨r, hr⟩ : ∃ r, q.rs[j]? = some r := ⟨_, List.getElem?_eq_getElem hjl⟩
      have hrt : (q.rs.take k)[j]? = some r := by rw [List.getElem?_take, if_pos hlt]; exact hr
      obtain ⟨g, hg, _, _, hcs, _⟩ := HAk.out.at_ hr
      dsimp only at hg
      subst hg
      have hB1 : rBy (q.rs.take k) (j + 1) = rBy (q.rs.take k) j + if rOff r = true then 0 else r.c.da.2.1 := by rw [rBy, hrt]
      have hS1 : rSa now (q.rs.take k) (j + 1) = if !rOff r && r.sn == 1 then IntKind.i64.wrap (now - r.la) else rSa now (q.rs.take k) j := by rw [rSa, hrt]
      have hjI : (j : Int) < (k : Int) := by omega
      have hjm : (j : Int) < (m : Int) := by omega
      have hj0 : (0 : Int) ≤ (j : Int) := by omega
      have hby := HBY.out (j + 1)
      have HCS := keep hcs
      have HLT := keep hlt
      obtain ⟨t, ht⟩ : ∃ t, rBy (q.rs.take k) j = t := ⟨_, rfl⟩
      obtain ⟨sv, hsv⟩ : ∃ sv, rSa now (q.rs.take k) j = sv := ⟨_, rfl⟩
      rw [ht] at hB1 ⊢
      rw [hsv] at hS1 ⊢
      obtain ⟨o3, h3⟩ : ∃ x, (r.st == 3) = x := ⟨_, rfl⟩
      obtain ⟨o4, h4⟩ : ∃ x, (r.st == 4) = x := ⟨_, rfl⟩
      obtain ⟨s1', h5⟩ : ∃ x, (r.sn == 1) = x := ⟨_, rfl⟩
      have hoff : rOff r = (o3 || o4) := by unfold rOff; rw [h3, h4]
      rw [hoff] at hB1 hS1
      rw [h5] at hS1
      have HB1 := keep hB1
      have HS1 := keep hS1
      have ht1 : (o3 || o4) = false → (t : Int) + (r.c.da.2.1 : Int) ≤ 2000000000 := fun he => by
        rw [he] at hB1
        have h9 : (j + 1) * 1000000 ≤ 1025 * 1000000 := Nat.mul_le_mul_right _ (by omega)
        simp at hB1
        omega
      have hne3 : (r.st != 3) = !o3 := by rw [← h3]; rfl
      have hne4 : (r.st != 4) = !o4 := by rw [← h4]; rfl
      clear hcs hr hrt hB1 hS1 hby ht hsv hoff hjl hlt hj
      obtain ⟨rc, mg, st, sn, la, ms, un, tr⟩ := r
      obtain ⟨xk, xf, xa, xb, xo, xs, xp, ⟨x1, x2, x3⟩, ⟨x4, x5, x6⟩, ⟨x7, x8, x9⟩, ⟨x10, x11, x12⟩, ⟨x13, x14, x15⟩, xbl, xdu, xsk, xpr, xbs⟩ := rc
      dsimp only at h3 h4 h5 ht1 hne3 hne4
      have hld : wr.rangeAt g (j * 19) [.int .u8 xk, .int .u8 xf, .int .u32 xa, .int .u32 xb, .int .u16 xo, .int .u16 xs, .int .u32 xp, .slice x1 x2 x3, .slice x4 x5 x6, .slice x7 x8 x9, .slice x10 x11 x12, .slice x13 x14 x15, .int .i64 mg, .int .i64 st, .int .i64 sn, .int .i64 la, .int .i64 ms, .int .i64 un, .int .i64 tr] := fun k v hv => HCS.out k v (by have := (List.getElem?_eq_some_iff.1 hv).1; simpa using this) hv
      have ho1 : (#[.int .u8 xk, .int .u8 xf, .int .u32 xa, .int .u32 xb, .int .u16 xo, .int .u16 xs, .int .u32 xp, .slice x1 x2 x3, .slice x4 x5 x6, .slice x7 x8 x9, .slice x10 x11 x12, .slice x13 x14 x15, .int .i64 mg, .int .i64 st, .int .i64 sn, .int .i64 la, .int .i64 ms, .int .i64 un, .int .i64 tr] : Array Value).all (·.oneCell') = true := by simp [Value.oneCell']
      clear HCS
      go_upto_region 10 with (first
          | (refine wpList_load_mid rfl 91 (.tmp 44) rfl g (j * 19) rfl [.int .u8 xk, .int .u8 xf, .int .u32 xa, .int .u32 xb, .int .u16 xo, .int .u16 xs, .int .u32 xp, .slice x1 x2 x3, .slice x4 x5 x6, .slice x7 x8 x9, .slice x10 x11 x12, .slice x13 x14 x15, .int .i64 mg, .int .i64 st, .int .i64 sn, .int .i64 la, .int .i64 ms, .int .i64 un, .int .i64 tr] _ hld Try.underlying91 (by kernel_rfl) (by kernel_rfl) ?_)
          | (refine wpList_store_newS (w := wr) rfl 91 (.tmp 18) (.tmp 45) rfl _ #[.int .u8 xk, .int .u8 xf, .int .u32 xa, .int .u32 xb, .int .u16 xo, .int .u16 xs, .int .u32 xp, .slice x1 x2 x3, .slice x4 x5 x6, .slice x7 x8 x9, .slice x10 x11 x12, .slice x13 x14 x15, .int .i64 mg, .int .i64 st, .int .i64 sn, .int .i64 la, .int .i64 ms, .int .i64 un, .int .i64 tr] rfl rfl (by kernel_rfl) rfl ho1 ?_))
      have b11 := box_at (W := wr) (e := 91) (cs := #[.int .u8 xk, .int .u8 xf, .int .u32 xa, .int .u32 xb, .int .u16 xo, .int .u16 xs, .int .u32 xp, .slice x1 x2 x3, .slice x4 x5 x6, .slice x7 x8 x9, .slice x10 x11 x12, .slice x13 x14 x15, .int .i64 mg, .int .i64 st, .int .i64 sn, .int .i64 la, .int .i64 ms, .int .i64 un, .int .i64 tr]) 11 _ rfl
      have b13 := box_at (W := wr) (e := 91) (cs := #[.int .u8 xk, .int .u8 xf, .int .u32 xa, .int .u32 xb, .int .u16 xo, .int .u16 xs, .int .u32 xp, .slice x1 x2 x3, .slice x4 x5 x6, .slice x7 x8 x9, .slice x10 x11 x12, .slice x13 x14 x15, .int .i64 mg, .int .i64 st, .int .i64 sn, .int .i64 la, .int .i64 ms, .int .i64 un, .int .i64 tr]) 13 _ rfl
      have b14 := box_at (W := wr) (e := 91) (cs := #[.int .u8 xk, .int .u8 xf, .int .u32 xa, .int .u32 xb, .int .u16 xo, .int .u16 xs, .int .u32 xp, .slice x1 x2 x3, .slice x4 x5 x6, .slice x7 x8 x9, .slice x10 x11 x12, .slice x13 x14 x15, .int .i64 mg, .int .i64 st, .int .i64 sn, .int .i64 la, .int .i64 ms, .int .i64 un, .int .i64 tr]) 14 _ rfl
      have b15 := box_at (W := wr) (e := 91) (cs := #[.int .u8 xk, .int .u8 xf, .int .u32 xa, .int .u32 xb, .int .u16 xo, .int .u16 xs, .int .u32 xp, .slice x1 x2 x3, .slice x4 x5 x6, .slice x7 x8 x9, .slice x10 x11 x12, .slice x13 x14 x15, .int .i64 mg, .int .i64 st, .int .i64 sn, .int .i64 la, .int .i64 ms, .int .i64 un, .int .i64 tr]) 15 _ rfl
      have HBx := keep (below_lay wr (.cells #[.int .u8 xk, .int .u8 xf, .int .u32 xa, .int .u32 xb, .int .u16 xo, .int .u16 xs, .int .u32 xp, .slice x1 x2 x3, .slice x4 x5 x6, .slice x7 x8 x9, .slice x10 x11 x12, .slice x13 x14 x15, .int .i64 mg, .int .i64 st, .int .i64 sn, .int .i64 la, .int .i64 ms, .int .i64 un, .int .i64 tr] 91))
      have HZ := keep (up HW.out HBx.out)
      obtain ⟨gb, hgb⟩ : ∃ gb, wr.heap.size = gb := ⟨_, rfl⟩
      rw [hgb] at b11 b13 b14 b15 ⊢
      generalize wr.alloc _ = W1 at b11 b13 b14 b15 HBx HZ ⊢
      clear hld ho1 c0 f0 HAk hgb HBx
      cases o3 with
      | true =>
        go_wp2
        go_roundw
        case rel => exact ⟨j + 1, by have := HLT.out; omega, by go_num, by rw [HB1.out]; simp, by rw [HS1.out]; simp, HZ⟩
        case measure => have := HLT.out; simp [intOf]; omega
      | false =>
        cases o4 with
        | true =>
          go_wp2
          go_roundw
          case rel => exact ⟨j + 1, by have := HLT.out; omega, by go_num, by rw [HB1.out]; simp, by rw [HS1.out]; simp, HZ⟩
          case measure => have := HLT.out; simp [intOf]; omega
        | false =>
          have ht2 := ht1 rfl
          have ht3 : (0 : Int) ≤ (t : Int) + (x14 : Int) := by omega
          clear ht1
          cases s1' with
          | true =>
            go_wp2
            go_roundw
            case rel => exact ⟨j + 1, by have := HLT.out; omega, by go_num, by rw [HB1.out]; simp, by rw [HS1.out]; simp [wrap_eq], HZ⟩
            case measure => have := HLT.out; simp [intOf]; omega
          | false =>
            go_wp2
            go_roundw
            case rel => exact ⟨j + 1, by have := HLT.out; omega, by go_num, by rw [HB1.out]; simp, by rw [HS1.out]; simp, HZ⟩
            case measure => have := HLT.out; simp [intOf]; omega
    · obtain rfl : k = j := by omega
      rename World => ws
      obtain ⟨by0, hby0⟩ : ∃ x, rBy (q.rs.take k) k = x := ⟨_, rfl⟩
      obtain ⟨sa0, hsa0⟩ : ∃ x, rSa now (q.rs.take k) k = x := ⟨_, rfl⟩
      have HBY0 := keep hby0
      have HSA0 := keep hsa0
      have hbn := HBY.out k
      rw [hby0] at hbn ⊢
      rw [hsa0]
      have hby1 : (by0 : Int) ≤ 1024000000 := by
        have h9 : k * 1000000 ≤ 1024 * 1000000 := Nat.mul_le_mul_right _ (by omega)
        omega
      clear hby0 hsa0 hbn HBY hlt hj
      go_upto_region 14 with fail
      have AL0 := keep (below_lay ws (.cells #[] 91))
      have HO0 := keep (show (ws.alloc (.cells #[] 91)).ownsRow ws.heap.size 91 19 (.slice (some ⟨ws.heap.size, 0, none⟩) 0 0) 0 [] from own_rowN (heap_alloc_new ws _) 0 rfl (by decide))
      have hbs : b < ws.heap.size := HAk.out.lt b (.inl rfl)
      have HMK := keep (show 0 + (m - k) ≤ maxLen ∧ (0 + (m - k)) * e0.bytes ≤ 140737488355328 from ⟨by have := hm1; unfold maxLen; omega, by rw [ez2]; have := hm1; omega⟩)
      have HDL := keep (show (q.rs.drop k).length = m - k from by rw [List.length_drop, HN.out])
      have HLK := keep (show (m - k) * 19 = (flatF RE.cells (q.rs.drop k)).length from by rw [flatF_len RE.len, HDL.out])
      have H5 := keep (fun (A5 : Option Addr) (c5 : Nat) (w5 : World) (hb5 : Below ws.heap.size (ws.alloc (.cells #[] 91)) w5) (ho5 : Hid (w5.ownsRow ws.heap.size 91 19 (.slice A5 (0 + (m - k)) c5) (0 + (m - k)) ([] ++ flatF RE.cells (q.rs.drop k)))) =>
        HAk.out.rerow (AL0.out.trans hb5) (show w5.ownsRow ws.heap.size 91 19 (.slice A5 (m - k) c5) (m - k) (flatF RE.cells (q.rs.drop k)) from by have h1 := ho5.out; rw [Nat.zero_add, List.nil_append] at h1; exact h1) (fun r hr => List.mem_of_mem_drop hr) (by rw [HDL.out]; have := hm1; omega))
      have HF0 := keep (fun (w5 : World) (hb5 : Below ws.heap.size (ws.alloc (.cells #[] 91)) w5) => (show w5.heap[b]? = _ from ((AL0.out.trans hb5).block b hbs).trans HAk.out.blk))
      have hcap : m ≤ s3 := (LR.of_own RE.len (by decide) HAk.out.row).2.1
      have HCAP := keep hcap
      clear hcap
      go_cut [] from 67 to 77 (fun wx => ∃ s' : SL, Hid (RA w b s' { q with rs := q.rs.drop k } wx ∧ Part (Rb b (s1, m, s3)) ws wx ∧ ∀ i, Rb b s' i → Rb b (s1, m, s3) i ∨ ws.heap.size ≤ i))
      case first =>
        by_cases hks : k < s3
        · obtain ⟨g, hg⟩ : ∃ g, s1 = some ⟨g, 0, none⟩ := by
            rcases HAk.out.row.2 with ⟨h0, _⟩ | ⟨g, _, _, h0, _⟩
            · injection h0 with _ _ h0; dsimp only at h0; omega
            · injection h0 with h0 _ _; exact ⟨g, h0⟩
          subst hg
          have hsr : SR ws (some ⟨g, k * 19, none⟩) (flatF RE.cells (q.rs.drop k)) := by
            by_cases hkm2 : k < m
            · obtain ⟨g', hg', h1⟩ := HAk.out.sr (k := k) (by have := HN.out; omega)
              injection hg' with hg'
              injection hg' with hg'
              rw [hg']
              exact h1
            · rw [List.drop_of_length_le (by have := HN.out; omega)]
              exact SR.nil _ _
          have HSR := keep (hsr.step AL0.out)
          have hks1 : ¬ s3 = k := by omega
          have hks2 : ¬ k = s3 := by omega
          have hcapI : (m : Int) ≤ (s3 : Int) := by have := HCAP.out; omega
          clear hsr hks
          go_wp2_with (at_builtin; refine wpl_appendK (by decide) rfl (.tmp 68) (.tmp 74) 57 rfl ws.heap.size 91 e0 _ Try.underlying57 he0 ez0 ez1 rfl _ 0 [] rfl HO0.out (some ⟨g, k * 19, none⟩) (m - k) _ (flatF RE.cells (q.rs.drop k)) rfl HLK.out HSR.out (flatF_one RE.one _) HMK.out.1 HMK.out.2 AL0.out.size ?_; intro A5 c5 w5 ho5 hb5 hg5; have H6 := keep (H5.out A5 c5 w5 hb5 ho5); have hb6 := HF0.out w5 hb5; have c05 := upd_cell hb6 0 _ rfl; have f05 := upd_fz hb6 0; clear hb5 ho5 hg5 hb6 c0)
          all_goals (try simp only [Nat.zero_add])
          all_goals go_meet
          all_goals exact ⟨_, H6⟩
        · obtain rfl : m = k := by have := HCAP.out; omega
          obtain rfl : s3 = m := by have := HCAP.out; omega
          have hdr : q.rs.drop s3 = [] := List.drop_of_length_le (by have := HN.out; omega)
          have HDR := keep (show (0 + (s3 - s3)) = 0 ∧ ([] ++ flatF RE.cells (q.rs.drop s3) : List Value) = [] from ⟨by omega, by rw [hdr]; rfl⟩)
          have hs1 : s1 = none ∨ ∃ g, s1 = some ⟨g, 0, none⟩ := by
            rcases HAk.out.row.2 with ⟨h0, _⟩ | ⟨g, _, _, h0, _⟩
            · injection h0 with h0 _ _; exact .inl h0
            · injection h0 with h0 _ _; exact .inr ⟨g, h0⟩
          clear hks hdr
          rcases hs1 with rfl | ⟨g, rfl⟩
          all_goals go_wp2_with (at_builtin; refine wpl_appendK (by decide) rfl (.tmp 68) (.tmp 74) 57 rfl ws.heap.size 91 e0 _ Try.underlying57 he0 ez0 ez1 rfl _ 0 [] rfl HO0.out _ 0 _ [] rfl rfl (SR.nil _ _) (by intro u hu; cases hu) (by decide) (by rw [ez2]; decide) AL0.out.size ?_; intro A5 c5 w5 ho5 hb5 hg5; have H6 := keep (H5.out A5 c5 w5 hb5 (keep (by rw [HDR.out.1, HDR.out.2]; exact ho5.out))); have hb6 := HF0.out w5 hb5; have c05 := upd_cell hb6 0 _ rfl; have f05 := upd_fz hb6 0; clear hb5 ho5 hg5 hb6 c0)
          all_goals (try simp only [Nat.zero_add])
          all_goals go_meet
          all_goals (rw [Nat.sub_self] at H6; exact ⟨_, H6⟩)
      case rest =>
        obtain ⟨⟨t1, m2, t3⟩, HC⟩ := hcut
        clear H5 HF0 HCAP HO0 AL0 HMK HLK HAk c0 f0
        obtain ⟨R0, hR0⟩ : ∃ R0, q.rs.drop k = R0 := ⟨_, rfl⟩
        have HDA2 := keep (fun r (hr : r ∈ R0) => HDA.out r (List.mem_of_mem_drop (by rw [hR0]; exact hr)))
        rw [hR0] at HC HDL
        have HR0 := keep hR0
        have HM2 := keep (show m2 = R0.length from HC.out.1.n)
        have hm2 : (m2 : Int) ≤ 1024 := by have := HM2.out; have := HDL.out; omega
        have HOW := keep HC.out.2.2
        have HPT := keep HC.out.2.1
        have HRW := keep HC.out.1
        clear HC hR0
        rename World => wc
        go_wp2
        go_loopw [15, 19, 20, 21, 22, 23] (fun by_ top i _ _ _ wr => ∃ j : Nat, j ≤ m2 ∧ i = .int .i64 j ∧ by_ = .int .i64 ((by0 + rCb bl R0 j : Nat) : Int) ∧ top = .int .i64 (rTop bl R0 j) ∧ Hid (RA w b (t1, m2, t3) { q with rs := upX (rCome bl) R0 j } wr ∧ Part (Rb b (t1, m2, t3)) wc wr)) (fun _ _ i _ _ _ _ => m2 - (intOf i).toNat)
        case atStart => exact ⟨0, Nat.zero_le _, rfl, rfl, rfl, keep ⟨by rw [upX_zero]; exact HRW.out, Part.refl _ _⟩⟩
        case round =>
          obtain ⟨j, hj, rfl, rfl, rfl, HR⟩ := hrel
          obtain ⟨c0, _, _, _, _, _⟩ := HR.out.1.b0
          dsimp only at c0
          by_cases hlt : j < m2
          · have hjl : j < R0.length := by have := HM2.out; omega
            obtain ⟨r, hr⟩ : ∃ r, R0[j]? = some r := ⟨_, List.getElem?_eq_getElem hjl⟩
            have hru := upX_at (f := rCome bl) hr
            have HRR := keep hr
            have HRU := keep hru
            have hjI : (j : Int) < (m2 : Int) := by omega
            have hj0 : (0 : Int) ≤ (j : Int) := by omega
            have HLT := keep hlt
            clear hr hru hjl hlt hj
            obtain ⟨byj, hbyj⟩ : ∃ x, by0 + rCb bl R0 j = x := ⟨_, rfl⟩
            have HBYJ := keep hbyj
            have HBYM := keep (show byj ≤ 2100000000 ∧ byj + r.c.da.2.1 ≤ 2100000000 from by
              have h1 := rCb_le (bl := bl) HDA2.out j
              have h2 := HDA2.out r (List.mem_of_getElem? HRR.out)
              have h3 : (j + 1) * 1000000 ≤ 1024 * 1000000 := Nat.mul_le_mul_right _ (by have := HLT.out; omega)
              rw [Nat.add_mul] at h3
              omega)
            obtain ⟨tp, htp⟩ : ∃ x, rTop bl R0 j = x := ⟨_, rfl⟩
            have HTP := keep htp
            rw [hbyj, htp]
            clear hbyj htp
            go_wp2
            go_loopw [21, 22] (fun inn kk wr2 => ∃ i : Nat, i ≤ n ∧ kk = .int .i64 i ∧ inn = .bool ((bl.take i).any fun b => decide (b.1 ≤ (j : Int) + 1) && decide ((j : Int) + 1 ≤ b.2)) ∧ wr2 = wr) (fun _ kk _ => n - (intOf kk).toNat)
            case atStart => exact ⟨0, Nat.zero_le _, rfl, rfl, rfl⟩
            case round =>
              obtain ⟨i, hi, rfl, rfl, rfl⟩ := hrel
              by_cases hlt2 : i < n
              · have hLk := HL0.out.kept (ok := fun _ => True) (Kpt.of_below HR.out.1.bl) (InF.all _)
                obtain ⟨g, o, x, hA, hgl, hx, hcx⟩ := hLk.at_ blC_len (by decide) (j := i) hlt2
                dsimp only at hA
                subst hA
                have y0 := hcx 0 _ rfl
                have y1 := hcx 1 _ rfl
                rw [Nat.add_zero] at y0
                have hxr := HOK.out x (List.mem_of_getElem? hx)
                have hst : (bl.take (i + 1)).any (fun b => decide (b.1 ≤ (j : Int) + 1) && decide ((j : Int) + 1 ≤ b.2)) = ((bl.take i).any (fun b => decide (b.1 ≤ (j : Int) + 1) && decide ((j : Int) + 1 ≤ b.2)) || (decide (x.1 ≤ (j : Int) + 1) && decide ((j : Int) + 1 ≤ x.2))) := by
                  rw [List.take_add_one, hx, List.any_append]
                  simp
                obtain ⟨oj, hoj⟩ : ∃ v, (bl.take i).any (fun b => decide (b.1 ≤ (j : Int) + 1) && decide ((j : Int) + 1 ≤ b.2)) = v := ⟨_, rfl⟩
                obtain ⟨p1, hp1⟩ : ∃ v, decide (x.1 ≤ (j : Int) + 1) = v := ⟨_, rfl⟩
                obtain ⟨p2, hp2⟩ : ∃ v, decide ((j : Int) + 1 ≤ x.2) = v := ⟨_, rfl⟩
                rw [hoj, hp1, hp2] at hst
                rw [hoj]
                have HST := keep hst
                have hx1 := hxr.1
                have hx2 := hxr.2.1
                have hx3 := hxr.2.2.1
                have hx4 := hxr.2.2.2
                have hiI : (i : Int) < (n : Int) := by omega
                have hi0 : (0 : Int) ≤ (i : Int) := by omega
                have hj1 : (j : Int) + 1 ≤ 1025 := by omega
                clear hst hoj hxr hx hcx hLk c0
                cases oj
                · cases p1
                  · go_wp2
                    go_roundw
                    case rel => exact ⟨i + 1, by omega, by go_num, by rw [HST.out]; simp, by first | rfl | trivial⟩
                    case measure => simp [intOf]; omega
                  · cases p2
                    all_goals
                      go_wp2
                      go_roundw
                      case rel => exact ⟨i + 1, by omega, by go_num, by rw [HST.out]; simp, by first | rfl | trivial⟩
                      case measure => simp [intOf]; omega
                · go_wp2
                  go_roundw
                  case rel => exact ⟨i + 1, by omega, by go_num, by rw [HST.out]; simp, by first | rfl | trivial⟩
                  case measure => simp [intOf]; omega
              · obtain rfl : n = i := by omega
                have hin : (bl.take n).any (fun b => decide (b.1 ≤ (j : Int) + 1) && decide ((j : Int) + 1 ≤ b.2)) = rIn bl j := by
                  rw [List.take_of_length_le (Nat.le_of_eq HL0.out.1.symm)]
                  rfl
                rw [hin]
                have hRU := HRU.out
                obtain ⟨g, hg, _, hgb, hcs, hfz⟩ := HR.out.1.at_ hRU
                dsimp only at hg
                subst hg
                have y13 := hcs 13 _ (by decide) rfl
                have y11 := hcs 11 _ (by decide) rfl
                have y16 := hcs 16 _ (by decide) rfl
                have f13 := hfz (j * 19 + 13)
                have f16 := hfz (j * 19 + 16)
                obtain ⟨oo, hoo⟩ : ∃ oo, j * 19 = oo := ⟨_, rfl⟩
                have HS3 := keep (HR.out.1.set hRU (r' := { r with st := 3 }) rfl 13 (.int .i64 3) (by decide) rfl rfl)
                have HS2 := keep (HR.out.1.two hRU rfl)
                rw [hoo] at y13 y11 y16 f13 f16 HS3 HS2
                have hC1 : rCb bl R0 (j + 1) = rCb bl R0 j + if rHit bl j r = true then r.c.da.2.1 else 0 := by rw [rCb, HRR.out]
                have hT1 : rTop bl R0 (j + 1) = if rHit bl j r = true then (j : Int) else tp := by rw [rTop, HRR.out, HTP.out]
                have hN := upX_next (f := rCome bl) HRR.out
                obtain ⟨inb, hib⟩ : ∃ x, rIn bl j = x := ⟨_, rfl⟩
                obtain ⟨e1, h1⟩ : ∃ x, (r.st == 1) = x := ⟨_, rfl⟩
                obtain ⟨e2, h2⟩ : ∃ x, (r.st == 2) = x := ⟨_, rfl⟩
                obtain ⟨e3, h3⟩ : ∃ x, (r.st == 3) = x := ⟨_, rfl⟩
                have hhit : rHit bl j r = (inb && (e1 || e2)) := by unfold rHit; rw [hib, h1, h2]
                have hcm : rCome bl j r = if (inb && (e1 || e2)) = true then { r with st := 3 } else if (!inb && e3) = true then { r with st := 1, ms := 0 } else r := by unfold rCome; rw [hhit, hib, h3]
                rw [hhit] at hC1 hT1
                rw [hib]
                have HC1 := keep (show by0 + rCb bl R0 (j + 1) = byj + if (inb && (e1 || e2)) = true then r.c.da.2.1 else 0 from by rw [hC1, ← HBYJ.out]; omega)
                have HT1 := keep hT1
                have HNX := keep hN
                have HCM := keep hcm
                have hb0 : (0 : Int) ≤ (byj : Int) := by omega
                have hb1 : (byj : Int) + (r.c.da.2.1 : Int) ≤ 2100000000 := by have := HBYM.out; omega
                have hb2 : (0 : Int) ≤ (byj : Int) + (r.c.da.2.1 : Int) := by omega
                have HRj := keep HR.out.2
                have HRgb := keep hgb
                have HRj1 := keep (show Part (Rb b (some ⟨g, 0, none⟩, m2, t3)) wc _ from HRj.out.trans HS3.out.2 fun k hk => .inl (by rw [hk]; exact .inr rfl))
                have HRj2 := keep (show Part (Rb b (some ⟨g, 0, none⟩, m2, t3)) wc _ from HRj.out.trans HS2.out.2 fun k hk => .inl (by rw [hk]; exact .inr rfl))
                clear hRU hcs hfz hC1 hT1 hN hhit hcm hib hin hlt2 hi
                cases inb with
                | true =>
                  cases e1 with
                  | true =>
                    go_wp2
                    go_roundw
                    case rel => exact ⟨j + 1, by have := HLT.out; omega, by go_num, by rw [HC1.out]; go_num, by rw [HT1.out]; rfl, keep ⟨by rw [HNX.out, HCM.out]; exact HS3.out.1, HRj1.out⟩⟩
                    case measure => have := HLT.out; simp [intOf]; omega
                  | false =>
                    cases e2 with
                    | true =>
                      go_wp2
                      go_roundw
                      case rel => exact ⟨j + 1, by have := HLT.out; omega, by go_num, by rw [HC1.out]; go_num, by rw [HT1.out]; rfl, keep ⟨by rw [HNX.out, HCM.out]; exact HS3.out.1, HRj1.out⟩⟩
                      case measure => have := HLT.out; simp [intOf]; omega
                    | false =>
                      have HSM := keep (show upX (rCome bl) R0 (j + 1) = upX (rCome bl) R0 j from upX_same HRR.out (by rw [HCM.out]; rfl))
                      go_wp2
                      go_roundw
                      case rel => exact ⟨j + 1, by have := HLT.out; omega, by go_num, by rw [HC1.out]; rfl, by rw [HT1.out]; rfl, keep ⟨by rw [HSM.out]; exact HR.out.1, HRj.out⟩⟩
                      case measure => have := HLT.out; simp [intOf]; omega
                | false =>
                  cases e3 with
                  | true =>
                    go_wp2
                    go_roundw
                    case rel => exact ⟨j + 1, by have := HLT.out; omega, by go_num, by rw [HC1.out]; rfl, by rw [HT1.out]; rfl, keep ⟨by rw [HNX.out, HCM.out]; exact HS2.out.1, HRj2.out⟩⟩
                    case measure => have := HLT.out; simp [intOf]; omega
                  | false =>
                    have HSM := keep (show upX (rCome bl) R0 (j + 1) = upX (rCome bl) R0 j from upX_same HRR.out (by rw [HCM.out]; rfl))
                    go_wp2
                    go_roundw
                    case rel => exact ⟨j + 1, by have := HLT.out; omega, by go_num, by rw [HC1.out]; rfl, by rw [HT1.out]; rfl, keep ⟨by rw [HSM.out]; exact HR.out.1, HRj.out⟩⟩
                    case measure => have := HLT.out; simp [intOf]; omega
          · obtain rfl : m2 = j := by omega
            obtain ⟨M, hM⟩ : ∃ M, R0.mapIdx (rCome bl) = M := ⟨_, rfl⟩
            have hMl : M.length = m2 := by rw [← hM, List.length_mapIdx]; exact HM2.out.symm
            have hup : upX (rCome bl) R0 m2 = M := by rw [HM2.out, upX_all, hM]
            rw [hup] at HR
            have HMM := keep hM
            have HML := keep hMl
            obtain ⟨byt, hbyt⟩ : ∃ x, by0 + rCb bl R0 m2 = x := ⟨_, rfl⟩
            obtain ⟨top, htop⟩ : ∃ x, rTop bl R0 m2 = x := ⟨_, rfl⟩
            have htl := rTop_lo bl R0 m2
            rw [htop] at htl
            rw [hbyt, htop]
            have HBYT := keep hbyt
            have HTOP := keep htop
            have ht1 : top ≤ 1024 := by omega
            have ht0 : -1 ≤ top := htl.1
            have HTL := keep htl.2
            clear hM hMl hup hbyt htop htl hlt hj
            rename World => wd
            go_wp2
            clear c0
            go_loopw [24, 25] (fun lo i wr => ∃ j : Nat, (j : Int) ≤ max 0 top ∧ i = .int .i64 j ∧ lo = .bool (rLo top M j) ∧ Hid (RA w b (t1, m2, t3) { q with rs := upX (rMis top) M j } wr ∧ Part (Rb b (t1, m2, t3)) wc wr)) (fun _ i _ => 2048 - (intOf i).toNat)
            case atStart => exact ⟨0, by omega, rfl, rfl, keep ⟨by rw [upX_zero]; exact HR.out.1, HR.out.2⟩⟩
            case round =>
              obtain ⟨j, hj, rfl, rfl, HQ⟩ := hrel
              obtain ⟨c0, _, _, _, _, _⟩ := HQ.out.1.b0
              dsimp only at c0
              by_cases hlt : (j : Int) < top
              · have hjl : j < M.length := by have := HML.out; have := HTL.out; omega
                obtain ⟨r, hr⟩ : ∃ r, M[j]? = some r := ⟨_, List.getElem?_eq_getElem hjl⟩
                have hru := upX_at (f := rMis top) hr
                obtain ⟨g, hg, _, hgb, hcs, hfz⟩ := HQ.out.1.at_ hru
                dsimp only at hg
                subst hg
                have y13 := hcs 13 _ (by decide) rfl
                have y16 := hcs 16 _ (by decide) rfl
                have f13 := hfz (j * 19 + 13)
                have f16 := hfz (j * 19 + 16)
                obtain ⟨oo, hoo⟩ : ∃ oo, j * 19 = oo := ⟨_, rfl⟩
                have HS1 := keep (HQ.out.1.set hru (r' := { r with ms := wrap64 (r.ms + 1) }) rfl 16 (.int .i64 (wrap64 (r.ms + 1))) (by decide) rfl rfl)
                have HS2 := keep (HQ.out.1.twoM hru rfl (wrap64 (r.ms + 1)))
                rw [hoo] at y13 y16 f13 f16 HS1 HS2
                have hjm : (j : Int) < (m2 : Int) := by have := HTL.out; omega
                have hj0 : (0 : Int) ≤ (j : Int) := by omega
                have hN := upX_next (f := rMis top) hr
                have hL : rLo top M (j + 1) = (rLo top M j || decide ((j : Int) < top ∧ r.st = 1 ∧ 3 ≤ wrap64 (r.ms + 1))) := by rw [rLo, hr]
                have HRR := keep hr
                have HNX := keep hN
                have HLL := keep hL
                have HJT := keep hlt
                have HQ2 := keep HQ.out.2
                have HP1 := keep (show Part (Rb b (some ⟨g, 0, none⟩, m2, t3)) wc _ from HQ2.out.trans HS1.out.2 fun k hk => .inl (by rw [hk]; exact .inr rfl))
                have HP2 := keep (show Part (Rb b (some ⟨g, 0, none⟩, m2, t3)) wc _ from HQ2.out.trans HS2.out.2 fun k hk => .inl (by rw [hk]; exact .inr rfl))
                obtain ⟨lo, hlo⟩ : ∃ x, rLo top M j = x := ⟨_, rfl⟩
                have HLO := keep hlo
                rw [hlo]
                clear hru hcs hfz hr hN hL hlo hjl hj
                by_cases h1 : r.st = 1
                · have e1 : (r.st == 1) = true := by simpa using h1
                  have e2 : (r.st != 1) = false := by simpa using h1
                  by_cases h3 : 3 ≤ wrap64 (r.ms + 1)
                  · have HM := keep (show rMis top j r = { r with ms := wrap64 (r.ms + 1), st := 2 } from by unfold rMis; rw [if_pos ⟨HJT.out, h1⟩, if_pos h3])
                    have HD := keep (show rLo top M (j + 1) = true from by rw [HLL.out, decide_eq_true ⟨HJT.out, h1, h3⟩, Bool.or_true])
                    have d3 : decide (3 ≤ wrap64 (r.ms + 1)) = true := decide_eq_true h3
                    clear h1
                    go_wp2
                    go_roundw
                    case rel => exact ⟨j + 1, by have := HJT.out; omega, by go_num, by rw [HD.out], keep ⟨by rw [HNX.out, HM.out]; exact HS2.out.1, HP2.out⟩⟩
                    case measure => have := HJT.out; simp [intOf]; omega
                  · have HM := keep (show rMis top j r = { r with ms := wrap64 (r.ms + 1) } from by unfold rMis; rw [if_pos ⟨HJT.out, h1⟩, if_neg h3])
                    have HD := keep (show rLo top M (j + 1) = lo from by rw [HLL.out, decide_eq_false (fun h9 => h3 h9.2.2), Bool.or_false, HLO.out])
                    have d3 : decide (3 ≤ wrap64 (r.ms + 1)) = false := decide_eq_false h3
                    clear h1
                    go_wp2
                    go_roundw
                    case rel => exact ⟨j + 1, by have := HJT.out; omega, by go_num, by rw [HD.out], keep ⟨by rw [HNX.out, HM.out]; exact HS1.out.1, HP1.out⟩⟩
                    case measure => have := HJT.out; simp [intOf]; omega
                · have e1 : (r.st == 1) = false := by simpa using h1
                  have e2 : (r.st != 1) = true := by simpa using h1
                  have HM := keep (show upX (rMis top) M (j + 1) = upX (rMis top) M j from upX_same HRR.out (by unfold rMis; rw [if_neg fun h9 => h1 h9.2]))
                  have HD := keep (show rLo top M (j + 1) = lo from by rw [HLL.out, decide_eq_false (fun h9 => h1 h9.2.1), Bool.or_false, HLO.out])
                  clear h1
                  go_wp2
                  go_roundw
                  case rel => exact ⟨j + 1, by have := HJT.out; omega, by go_num, by rw [HD.out], keep ⟨by rw [HM.out]; exact HQ.out.1, HQ2.out⟩⟩
                  case measure => have := HJT.out; simp [intOf]; omega
              · have hjt : top ≤ (j : Int) := by omega
                have hjM : j ≤ M.length := by have := HML.out; have := HTL.out; omega
                have hfin := HQ.out.1
                rw [upX_far hjM hjt] at hfin
                have HFIN := keep hfin
                have HLF := keep (rLo_far (M := M) hjt M.length hjM)
                have hk0 : decide ((0 : Int) < (k : Int)) = decide (0 < k) := by rw [Bool.eq_iff_iff, decide_eq_true_eq, decide_eq_true_eq]; omega
                clear hfin
                obtain ⟨lo, hlo⟩ : ∃ x, rLo top M j = x := ⟨_, rfl⟩
                have HLO := keep hlo
                rw [hlo]
                clear hlo
                go_wp2
                refine bodyPost_ret (results_tmp5 rfl _ _ _) rfl ⟨?_, keep ⟨(t1, m2, t3), ?_, ?_, fun i hi => ?_⟩⟩
                · have hlen : q.rs.length - k = m2 := by have h1 := HDL.out; have h2 := HM2.out; have h3 := HN.out; omega
                  have g1 : (by0 : Int) + ((rCb bl R0 m2 : Nat) : Int) = (byt : Int) := by have := HBYT.out; omega
                  have g2 : rLo top M m2 = lo := by rw [← HML.out, HLF.out, HLO.out]
                  simp only [HR0.out, hlen, HBY0.out, HSA0.out, HMM.out, HTOP.out, g1, g2]
                  rfl
                · unfold rAk
                  rw [HR0.out, HMM.out, ← HM2.out, HTOP.out]
                  exact HFIN.out
                · exact ((Part.of_below (Rb b (s1, m, s3)) HW.out).trans HPT.out fun i h => .inl h).trans HQ.out.2 fun i h => by
                    rcases HOW.out i h with h1 | h1
                    · exact .inl h1
                    · exact .inr (Nat.le_trans HW.out.size h1)
                · rcases HOW.out i hi with h1 | h1
                  · exact .inl h1
                  · exact .inr (Nat.le_trans HW.out.size h1)
end
end
end Go.Proofs.Ytffjdknmfmlfnaa
