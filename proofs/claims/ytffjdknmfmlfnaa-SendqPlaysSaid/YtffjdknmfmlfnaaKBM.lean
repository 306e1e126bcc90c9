/- KBM of the stage: texts R8, joined. -/
import Derived.Test.YtffjdknmfmlfnaaKBK
set_option linter.unusedSimpArgs false
set_option linter.unusedVariables false
namespace Go.Proofs.Ytffjdknmfmlfnaa
section
open Go.RowKit Go.Maps

theorem step_append_at {P : Program} {w : World} {ops : Array Oper} {o : Oper} {a : Act} {Q : Exit → Act → World → Prop} {K : Act → World → Prop} {E : Prop} (hgd : o.guard = none) (s x : Operand) (t : TypeId) (ho : o.op = .call { callee := .builtin .append, args := #[s, x], argTypes := #[t, t] })
    (base : Nat) (e : TypeId) (i : TypeInfo) (z : Value) (size bytes : Nat) (ht : P.underlying t = some (.slice e)) (hi : P.info? e = some i) (hz : i.zero = some z) (hsize : i.size = size) (hby : i.bytes = bytes) (hzs : z.cells.size = size) (hsz : 0 < size)
    (v : Value) (n : Nat) (xs : List Value) (hs : a.eval s = v) (hown : w.ownsRow base e size v n xs) (ad : Addr) (m c : Nat) (news : List Value) (hx : a.eval x = .slice (some ad) m c) (hl : news.length = m * size) (hnews : ∀ j u, news[j]? = some u → w.cell? (ad.add j) = some u) (h1 : ∀ u ∈ news, u.oneCell' = true)
    (h63 : n + m ≤ maxLen) (hbytes : (n + m) * bytes ≤ 140737488355328) (hbase : base ≤ w.heap.size)
    (h : ∀ A' c' w', Hid (w'.ownsRow base e size (.slice A' (n + m) c') (n + m) (xs ++ news)) → Hid (w.grownBy w' v.ownBlock) → Hid ((Value.slice A' (n + m) c').ownBlock = v.ownBlock ∨ (Value.slice A' (n + m) c').ownBlock = some w.heap.size) → K (a.put o.dst (.slice A' (n + m) c')) w') : if Region.wanted o (yielded ops a.tmps) = true then Oper.wp P o a w K Q else E := by
  have hw : Region.wanted o (yielded ops a.tmps) = true := by simp [Region.wanted, hgd]
  rw [if_pos hw]
  obtain ⟨v', w', hrun, h2, h3, _, h5⟩ := run_append_own_at (P := P) w base t o.type e i z size bytes ht hi hz hsize hby hzs hsz v n xs hown ad m c news hl hnews h1 h63 hbytes hbase
  obtain ⟨A', c', rfl, _⟩ := own_shape2' h2
  unfold Oper.wp execOp
  simp only [ho, resolve, invoke, builtin, Sem.run_bind, Sem.run_pure, Result.andThen_ok, List.map_toArray, List.map_cons, List.map_nil, hs, hx, hrun]
  exact h A' c' w' (show _ from h2) (show _ from h3) (show _ from h5)
def rPe (q : Rm) (ls : List CZ) : Int := if ls = [] ∨ ls.any unfitB = true then 1 else if 1024 < q.rs.length + ls.length then 9 else 0
theorem entry_info : (Try.prog.info? 91).map (fun i => (i.zero, i.size, i.bytes)) = some (some (.agg #[.int .u8 0, .int .u8 0, .int .u32 0, .int .u32 0, .int .u16 0, .int .u16 0, .int .u32 0, .slice none 0 0, .slice none 0 0, .slice none 0 0, .slice none 0 0, .slice none 0 0, .int .i64 0, .int .i64 0, .int .i64 0, .int .i64 0, .int .i64 0, .int .i64 0, .int .i64 0]), 19, 200) := by kernel_rfl
section
variable {w W W' : World} {b : Nat} {s : SL} {q : Rm}
theorem box12 {W : World} {B : Nat} {t : TypeId} {v0 v1 v2 v3 v4 v5 v6 v7 v8 v9 v10 v11 : Value} (h : W.heap[B]? = some (.cells #[v0, v1, v2, v3, v4, v5, v6, v7, v8, v9, v10, v11] t (0, 0))) :
    W.cell? ⟨B, 0, none⟩ = some v0 ∧ W.cell? ⟨B, 1, none⟩ = some v1 ∧ W.cell? ⟨B, 2, none⟩ = some v2 ∧ W.cell? ⟨B, 3, none⟩ = some v3 ∧ W.cell? ⟨B, 4, none⟩ = some v4 ∧ W.cell? ⟨B, 5, none⟩ = some v5 ∧ W.cell? ⟨B, 6, none⟩ = some v6 ∧ W.cell? ⟨B, 7, none⟩ = some v7 ∧ W.cell? ⟨B, 8, none⟩ = some v8 ∧ W.cell? ⟨B, 9, none⟩ = some v9 ∧ W.cell? ⟨B, 10, none⟩ = some v10 ∧ W.cell? ⟨B, 11, none⟩ = some v11 :=
  ⟨upd_cell h 0 _ rfl, upd_cell h 1 _ rfl, upd_cell h 2 _ rfl, upd_cell h 3 _ rfl, upd_cell h 4 _ rfl, upd_cell h 5 _ rfl, upd_cell h 6 _ rfl, upd_cell h 7 _ rfl, upd_cell h 8 _ rfl, upd_cell h 9 _ rfl, upd_cell h 10 _ rfl, upd_cell h 11 _ rfl⟩
theorem lay_add {W : World} {cs : Array Value} {t : TypeId} : ∀ (j : Nat) (u : Value), cs.toList[j]? = some u → (W.alloc (.cells cs t)).cell? ((⟨W.heap.size, 0, none⟩ : Addr).add j) = some u := fun j u hu => by
  rw [Addr.add_lit, Nat.zero_add]
  exact box_at j u hu
theorem zv_a {w : World} {x : CZ} (h : ZV w x ∧ Sm x) {v : Int} (hv : 0 ≤ v ∧ v < 4294967296) : ZV w { x with a := v } ∧ Sm { x with a := v } := by
  obtain ⟨⟨a1, a2, a3, a4, a5, a6, a7, a8, a9, a10, a11, a12, a13⟩, b1, b2, b3, b4, b5⟩ := h
  exact ⟨⟨a1, a2, hv, a4, a5, a6, a7, a8, a9, a10, a11, a12, a13⟩, b1, b2, b3, b4, b5⟩
theorem RA.nob (h : RA w b s q W) : ¬ (Value.slice s.1 s.2.1 s.2.2).ownBlock = some b := fun e => by
  obtain ⟨cur, fr, hcur⟩ := own_cells h.row e
  exact cells_cells hcur h.blk (by decide) rfl
theorem RA.app (h : RA w b s q W) {w5 : World} {A' : Option Addr} {c' : Nat} {r : RE} (ho : w5.ownsRow w.heap.size 91 19 (.slice A' (s.2.1 + 1) c') (s.2.1 + 1) (flatF RE.cells q.rs ++ r.cells)) (hp : Part (fun i => (Value.slice s.1 s.2.1 s.2.2).ownBlock = some i) W w5)
    (hl : ∀ i, (Value.slice A' (s.2.1 + 1) c').ownBlock = some i → (Value.slice s.1 s.2.1 s.2.2).ownBlock = some i ∨ W.heap.size ≤ i) (hz : ZV w r.c ∧ Sm r.c) (hle : q.rs.length + 1 ≤ 1024) :
    RA w b (A', s.2.1 + 1, c') { q with rs := q.rs ++ [r] } (w5.setCell ⟨b, 0, none⟩ (.slice A' (s.2.1 + 1) c')) ∧ Part (Rb b s) W (w5.setCell ⟨b, 0, none⟩ (.slice A' (s.2.1 + 1) c')) ∧ ∀ i, Rb b (A', s.2.1 + 1, c') i → Rb b s i ∨ W.heap.size ≤ i := by
  have hbW := (Array.getElem?_eq_some_iff.1 h.blk).1
  have hb5 := (hp.block b hbW h.nob).trans h.blk
  have hps := part_set w5 b 0 (.slice A' (s.2.1 + 1) c')
  have hpt : Part (Rb b s) W (w5.setCell ⟨b, 0, none⟩ (.slice A' (s.2.1 + 1) c')) := (hp.mono fun i hi => .inr hi).trans hps fun i hi => .inl (.inl hi)
  refine ⟨⟨heap_setCell_same w5 b 0 _ _ _ hb5, h.lo, ?_, h.bl.trans (hpt.below h.bl.size fun i hi => ?_), fun x hx => ?_, h.nx, by simpa using hle⟩, hpt, fun i hi => ?_⟩
  · show World.ownsRow _ w.heap.size _ 19 _ _ (flatF RE.cells (q.rs ++ [r]))
    rw [flatF_append, show flatF RE.cells [r] = r.cells by simp [flatF]]
    exact hps.own ho fun g hg e => by
      rcases hl g hg with h1 | h1
      · exact h.nob (by rw [← e]; exact h1)
      · omega
  · rcases hi with rfl | hi
    · exact h.lo
    · exact (h.row.lt i hi).1
  · rcases List.mem_append.1 hx with hx | hx
    · exact h.zv x hx
    · rw [List.mem_singleton.1 hx]; exact hz
  · rcases hi with hi | hi
    · exact .inl (.inl hi)
    · rcases hl i hi with h1 | h1
      · exact .inl (.inr h1)
      · exact .inr h1
theorem RA.putN (h : RA w b s q W) (v : Int) (hv : 0 ≤ v ∧ v < 4294967296) : RA w b s { q with nx := v } (W.setCell ⟨b, 1, none⟩ (.int .u32 v)) ∧ Part (Rb b s) W (W.setCell ⟨b, 1, none⟩ (.int .u32 v)) := by
  have hps := part_set W b 1 (.int .u32 v)
  exact ⟨⟨heap_setCell_same W b 1 _ _ _ h.blk, h.lo, hps.own h.row fun g hg e => h.nob (by rw [← e]; exact hg), h.bl.trans (hps.below h.bl.size fun i hi => by rw [hi]; exact h.lo), h.zv, hv, h.le⟩, hps.mono fun i hi => .inl hi⟩
theorem RA.putC (h : RA w b s q W) (v : Int) : RA w b s { q with ct := v } (W.setCell ⟨b, 2, none⟩ (.int .i64 v)) ∧ Part (Rb b s) W (W.setCell ⟨b, 2, none⟩ (.int .i64 v)) := by
  have hps := part_set W b 2 (.int .i64 v)
  exact ⟨⟨heap_setCell_same W b 2 _ _ _ h.blk, h.lo, hps.own h.row fun g hg e => h.nob (by rw [← e]; exact hg), h.bl.trans (hps.below h.bl.size fun i hi => by rw [hi]; exact h.lo), h.zv, h.nx, h.le⟩, hps.mono fun i hi => .inl hi⟩
structure PuR (w W : World) (b : Nat) (s : SL) (q : Rm) (ls : List CZ) (un tr : Int) (j : Nat) (sj : SL) (wr : World) : Prop where
  ra : RA w b sj ⟨q.rs ++ (ls.take j).mapIdx (rNew q un tr), (q.nx + (j : Int)) % 4294967296, q.ct⟩ wr
  pt : Part (Rb b s) W wr
  ow : ∀ i, Rb b sj i → Rb b s i ∨ W.heap.size ≤ i
theorem mapIdx_step {ls : List CZ} {j : Nat} {x : CZ} (hx : ls[j]? = some x) (f : Nat → CZ → RE) : (ls.take (j + 1)).mapIdx f = (ls.take j).mapIdx f ++ [f j x] := by
  have hl := (List.getElem?_eq_some_iff.1 hx).1
  rw [List.take_add_one, hx, List.mapIdx_append, List.length_take, Nat.min_eq_left (by omega)]
  simp
set_option maxRecDepth 100000 in
set_option maxHeartbeats 8000000 in
theorem refPush15_any (h : RA w b s q W) {A : Option Addr} {n c : Nat} {ls : List CZ} (hl : ZS w (A, n, c) ls) (hsm : ∀ x ∈ ls, Sm x) (hn : n ≤ 1000) (un tr : Int) (hct : 0 ≤ q.ct ∧ q.ct ≤ 1000000) :
    Calls Try.prog 16 #[.pointer (some ⟨b, 0, none⟩), .slice A n c, .int .i64 un, .int .i64 tr] W fun e w' => e = .returned (.int .i64 (rPe q ls)) ∧ ∃ s', Hid (RA w b s' (if rPe q ls = 0 then rPsh q ls un tr else q) w' ∧ Part (Rb b s) W w' ∧ ∀ i, Rb b s' i → Rb b s i ∨ W.heap.size ≤ i) := by
  have HA := keep h
  have hm := h.n
  have hle := h.le
  have HL := keep (hl.step h.bl)
  have HL0 := keep hl
  have hnl := hl.1.1
  dsimp only at hnl
  have HSM := keep hsm
  have HCT := keep hct
  clear h hl hsm hct
  obtain ⟨s1, m, s3⟩ := s
  dsimp only at hm
  have HN := keep hm
  have hm1 : (m : Int) ≤ 1024 := by omega
  have hn1 : (n : Int) ≤ 1000 := by omega
  have HNL := keep hnl
  obtain ⟨R, hR⟩ : ∃ R, rPe q ls = R := ⟨_, rfl⟩
  rw [hR]
  have HR := keep hR
  obtain ⟨q2, hq2⟩ : ∃ q2, (if R = 0 then rPsh q ls un tr else q) = q2 := ⟨_, rfl⟩
  rw [hq2]
  have HQ2 := keep hq2
  clear hq2
  clear hm hle hn hR hnl
  by_cases hz : n = 0
  · subst hz
    have HR2 := keep (show R = 1 from by
      rw [← HR.out]
      unfold rPe
      rw [if_pos (.inl (List.eq_nil_of_length_eq_zero HNL.out.symm))])
    go_enter Try.func16, Try.ntmps16
    go_wp2
    go_ret
    rw [HR2.out]
    exact ⟨rfl, _, keep ⟨by rw [← HQ2.out, HR2.out, if_neg (by decide)]; exact HA.out, Part.refl _ _, fun i hi => .inl hi⟩⟩
  have hz1 : ((n : Int) == 0) = false := beq_false_of_ne (by omega)
  have hz2 : ¬ (n : Int) = 0 := by omega
  go_enter Try.func16, Try.ntmps16
  go_wp2
  go_loopw [9] (fun i wr => ∃ j : Nat, j ≤ n ∧ i = .int .i64 j ∧ wr = W ∧ Hid ((ls.take j).any unfitB = false)) (fun i _ => n - (intOf i).toNat)
  case atStart => exact ⟨0, Nat.zero_le _, rfl, rfl, keep rfl⟩
  case round =>
    obtain ⟨j, hj, rfl, rfl, HU⟩ := hrel
    by_cases hlt : j < n
    · obtain ⟨g, o, x, rfl, hgl, hz12, hx, hv⟩ := HL.out.at_ hlt
      have HX := keep hx
      obtain ⟨z0, z1, z2, z3, z4, z5, z6, z7, z8, z9, z10, z11⟩ := hz12
      have hjI : (j : Int) < (n : Int) := by omega
      have hj0 : (0 : Int) ≤ (j : Int) := by omega
      have hw : (ls.take (j + 1)).any unfitB = unfitB x := by rw [List.take_add_one, hx, List.any_append, HU.out]; simp
      have hbad : unfitB x = true → R = 1 := fun hb => by
        rw [← HR.out]
        unfold rPe
        rw [if_pos (.inr (List.any_eq_true.2 ⟨x, List.mem_of_getElem? hx, hb⟩))]
      have HW := keep hw
      have HB := keep hbad
      clear hx hv z1 z2 z3 z4 z5 z6 z7 z8 z9 z10 hw hbad
      by_cases hk : x.kd = 0
      · have k1 : (x.kd != 0) = false := by simp [hk]
        have k2 : (x.kd == 0) = true := by simp [hk]
        by_cases hd : x.da.2.1 = 0
        · have HR2 := keep (HB.out (by unfold unfitB; simp [hd]))
          have d1 : ((x.da.2.1 : Int) == 0) = true := by simp [hd]
          have d2 : (x.da.2.1 : Int) = 0 := by omega
          clear hk hd
          go_wp2
          go_ret
          rw [HR2.out]
          exact ⟨rfl, _, keep ⟨by rw [← HQ2.out, HR2.out, if_neg (by decide)]; exact HA.out, Part.refl _ _, fun i hi => .inl hi⟩⟩
        · have HF := keep (show unfitB x = false from by unfold unfitB; simp [hk, hd])
          have d1 : ((x.da.2.1 : Int) == 0) = false := beq_false_of_ne (by omega)
          have d2 : ¬ (x.da.2.1 : Int) = 0 := by omega
          clear hk hd
          go_wp2
          go_roundw
          case rel => exact ⟨j + 1, by omega, by go_num, by first | rfl | trivial, keep (HW.out.trans HF.out)⟩
          case measure => simp [intOf]; omega
      · have HR2 := keep (HB.out (by unfold unfitB; simp [hk]))
        have k1 : (x.kd != 0) = true := by simp [hk]
        have k2 : (x.kd == 0) = false := by simp [hk]
        clear hk
        go_wp2
        go_ret
        rw [HR2.out]
        exact ⟨rfl, _, keep ⟨by rw [← HQ2.out, HR2.out, if_neg (by decide)]; exact HA.out, Part.refl _ _, fun i hi => .inl hi⟩⟩
    · obtain rfl : n = j := by omega
      have HALL := keep (show ls.any unfitB = false from by have := HU.out; rwa [HNL.out, List.take_length] at this)
      clear HU hlt
      obtain ⟨c0, c1, c2, _, _, _⟩ := HA.out.b0
      dsimp only at c0
      by_cases hful : 1024 < (m : Int) + (n : Int)
      · have HR2 := keep (show R = 9 from by
          rw [← HR.out]
          unfold rPe
          rw [if_neg (by rw [HALL.out]; rintro (h | h); exact hz (by rw [HNL.out, h]; rfl); cases h), if_pos (by have := HN.out; have := HNL.out; omega)])
        go_wp2
        go_ret
        rw [HR2.out]
        exact ⟨rfl, _, keep ⟨by rw [← HQ2.out, HR2.out, if_neg (by decide)]; exact HA.out, Part.refl _ _, fun i hi => .inl hi⟩⟩
      · have HR2 := keep (show R = 0 from by
          rw [← HR.out]
          unfold rPe
          rw [if_neg (by rw [HALL.out]; rintro (h | h); exact hz (by rw [HNL.out, h]; rfl); cases h), if_neg (by have := HN.out; have := HNL.out; omega)])
        have HMN := keep (show m + n ≤ 1024 by omega)
        have I0 : Hid (PuR w wr b (s1, m, s3) q ls un tr 0 (s1, m, s3) wr) := keep ⟨by
          have h1 := HA.out
          have h2 := HA.out.nx
          rw [show (⟨q.rs ++ (ls.take 0).mapIdx (rNew q un tr), (q.nx + ((0 : Nat) : Int)) % 4294967296, q.ct⟩ : Rm) = q from by
            rw [List.take_zero, List.mapIdx_nil, List.append_nil, show (q.nx + ((0 : Nat) : Int)) % 4294967296 = q.nx by omega]]
          exact h1, Part.refl _ _, fun i hi => .inl hi⟩
        obtain ⟨e0, he0, ez0, ez1, ez2⟩ := info_parts entry_info
        rename World => ws
        go_wp2
        clear c0 c1 c2 hful
        go_loopw [10, 11] (fun i _ wr => ∃ (j : Nat) (sj : SL), j ≤ n ∧ i = .int .i64 j ∧ Hid (PuR w ws b (s1, m, s3) q ls un tr j sj wr)) (fun i _ _ => n - (intOf i).toNat)
        case atStart => exact ⟨0, _, Nat.zero_le _, rfl, I0⟩
        case round =>
          clear I0
          obtain ⟨j, sj, hj, rfl, HI⟩ := hrel
          obtain ⟨c0, c1, c2, f0, f1, f2⟩ := HI.out.ra.b0
          dsimp only at c0 c1 c2
          by_cases hlt2 : j < n
          · have hbel : Below w.heap.size w wr := HI.out.ra.bl
            have hblt : b < wr.heap.size := HI.out.ra.lt b (.inl rfl)
            obtain ⟨g, o, x, hA, hgl, hz12, hx, hv⟩ := (HL0.out.step hbel).at_ hlt2
            dsimp only at hA
            subst hA
            have HX := keep hx
            have hsjn : sj.2.1 = m + j := by
              have h1 := HI.out.ra.n
              have h2 := HN.out
              have h3 := HNL.out
              dsimp only at h1
              rw [List.length_append, List.length_mapIdx, List.length_take] at h1
              omega
            have HSJ := keep hsjn
            have HJ := keep hlt2
            obtain ⟨sj1, sj2, sj3⟩ := sj
            dsimp only at hsjn c0
            have hjI : (j : Int) < (n : Int) := by omega
            have hj0 : (0 : Int) ≤ (j : Int) := by omega
            obtain ⟨oo, hoo⟩ : ∃ oo, o + j * 12 = oo := ⟨_, rfl⟩
            rw [hoo] at hz12
            have HZX := keep (And.intro (HL0.out.2 x (List.mem_of_getElem? hx)) (HSM.out x (List.mem_of_getElem? hx)))
            clear hx hv hbel hsjn
            obtain ⟨xk, xf, xa, xb, xo, xs, xp, ⟨x1, x2, x3⟩, ⟨x4, x5, x6⟩, ⟨x7, x8, x9⟩, ⟨x10, x11, x12⟩, ⟨x13, x14, x15⟩, xbl, xdu, xsk, xpr, xbs⟩ := x
            obtain ⟨z0, z1, z2, z3, z4, z5, z6, z7, z8, z9, z10, z11⟩ := hz12
            dsimp only at z0 z1 z2 z3 z4 z5 z6 z7 z8 z9 z10 z11
            go_upto_region 14 with fail
            clear z0 z1 z2 z3 z4 z5 z6 z7 z8 z9 z10 z11
            go_upto_region 15 with fail
            have hbx := heap_alloc_new wr (.cells #[.int .u8 xk, .int .u8 xf, .int .u32 ((q.nx + (j : Int)) % 4294967296), .int .u32 xb, .int .u16 xo, .int .u16 xs, .int .u32 xp, .slice x1 x2 x3, .slice x4 x5 x6, .slice x7 x8 x9, .slice x10 x11 x12, .slice x13 x14 x15] 45)
            have HB1 := keep (below_lay wr (.cells #[.int .u8 xk, .int .u8 xf, .int .u32 ((q.nx + (j : Int)) % 4294967296), .int .u32 xb, .int .u16 xo, .int .u16 xs, .int .u32 xp, .slice x1 x2 x3, .slice x4 x5 x6, .slice x7 x8 x9, .slice x10 x11 x12, .slice x13 x14 x15] 45))
            have HR1 := keep (HI.out.ra.step HB1.out)
            have HBb := keep (show b ≠ wr.heap.size from fun e => by omega)
            have HBs := keep (show wr.heap.size < (wr.alloc (.cells #[.int .u8 xk, .int .u8 xf, .int .u32 ((q.nx + (j : Int)) % 4294967296), .int .u32 xb, .int .u16 xo, .int .u16 xs, .int .u32 xp, .slice x1 x2 x3, .slice x4 x5 x6, .slice x7 x8 x9, .slice x10 x11 x12, .slice x13 x14 x15] 45)).heap.size by simp)
            obtain ⟨B, hB⟩ : ∃ B, wr.heap.size = B := ⟨_, rfl⟩
            rw [hB] at hbx HBb HBs ⊢
            generalize wr.alloc _ = W1 at hbx HB1 HR1 HBs ⊢
            obtain ⟨nv, hnv⟩ : ∃ nv, (q.nx + (j : Int)) % 4294967296 = nv := ⟨_, rfl⟩
            rw [hnv] at hbx HR1 ⊢
            have HNV := keep hnv
            have hnv0 : 0 ≤ nv ∧ nv < 4294967296 := by omega
            have hnv1 : (0 : Int) ≤ (nv + 1) % 4294967296 ∧ (nv + 1) % 4294967296 < 4294967296 := by omega
            have HR2 := keep (HR1.out.putN ((nv + 1) % 4294967296) hnv1)
            clear c0 c1 c2 f0 f1 f2 hnv hnv0 hnv1 hblt
            obtain ⟨c0, c1, c2, f0, f1, f2⟩ := HR1.out.b0
            dsimp only at c0 c1 c2
            have HBX := keep hbx
            clear hbx hB
            go_upto_region 16 with fail
            have hbx2 := ((part_set W1 b 1 (.int .u32 ((nv + 1) % 4294967296))).block B HBs.out (fun e => HBb.out e.symm)).trans HBX.out
            have HBs2 := keep (show B < (W1.setCell ⟨b, 1, none⟩ (.int .u32 ((nv + 1) % 4294967296))).heap.size from (Array.getElem?_eq_some_iff.1 hbx2).1)
            have HBX2 := keep hbx2
            clear c0 c1 c2 f0 f1 f2 hbx2
            generalize W1.setCell _ _ = W2 at HR2 HBX2 HBs2 ⊢
            have HS := keep (fun (W' : World) (hb : W'.heap[b]? = W2.heap[b]?) (hB : W'.heap[B]? = W2.heap[B]?) => (show (fun w' => w'.cell? ⟨b, 2, none⟩ = some (.int .i64 q.ct) ∧ w'.cell? ⟨B, 0, none⟩ = some (.int .u8 xk) ∧ w'.cell? ⟨B, 1, none⟩ = some (.int .u8 xf) ∧ w'.cell? ⟨B, 2, none⟩ = some (.int .u32 nv) ∧ w'.cell? ⟨B, 3, none⟩ = some (.int .u32 xb) ∧ w'.cell? ⟨B, 4, none⟩ = some (.int .u16 xo) ∧ w'.cell? ⟨B, 5, none⟩ = some (.int .u16 xs) ∧ w'.cell? ⟨B, 6, none⟩ = some (.int .u32 xp) ∧ w'.cell? ⟨B, 7, none⟩ = some (.slice x1 x2 x3) ∧ w'.cell? ⟨B, 8, none⟩ = some (.slice x4 x5 x6) ∧ w'.cell? ⟨B, 9, none⟩ = some (.slice x7 x8 x9) ∧ w'.cell? ⟨B, 10, none⟩ = some (.slice x10 x11 x12) ∧ w'.cell? ⟨B, 11, none⟩ = some (.slice x13 x14 x15)) W' from ⟨(World.cell?_of_block (a := (⟨b, 2, none⟩ : Addr)) hb).trans HR2.out.1.b0.2.2.1, box12 (hB.trans HBX2.out)⟩))
            have HC0 := keep (fun (W' : World) (hb : W'.heap[b]? = W2.heap[b]?) => ((World.cell?_of_block (a := (⟨b, 0, none⟩ : Addr)) hb).trans HR2.out.1.b0.1 : W'.cell? ⟨b, 0, none⟩ = some (.slice sj1 sj2 sj3)))
            have hbW2 : b < W2.heap.size := HR2.out.1.lt b (.inl rfl)
            have HBW := keep hbW2
            have HRW := keep (show W2.drew.ownsRow w.heap.size 91 19 (.slice sj1 sj2 sj3) sj2 (flatF RE.cells (q.rs ++ (ls.take j).mapIdx (rNew q un tr))) from own_step HR2.out.1.row (Below.refl _ _).drew)
            have HMX := keep (show sj2 + 1 ≤ maxLen ∧ (sj2 + 1) * 200 ≤ 140737488355328 ∧ w.heap.size ≤ W2.heap.size from ⟨by have := HSJ.out; have := HMN.out; dsimp only at *; unfold maxLen; omega, by have := HSJ.out; have := HMN.out; dsimp only at *; omega, HR2.out.1.bl.size⟩)
            have c0 := HC0.out W2.drew rfl
            have c0w := HC0.out W2 rfl
            have HZN := keep (zv_a HZX.out (show 0 ≤ nv ∧ nv < 4294967296 by have := HNV.out; omega))
            have HLE := keep (show (q.rs ++ (ls.take j).mapIdx (rNew q un tr)).length + 1 ≤ 1024 from by have h1 := HR2.out.1.n; have := HSJ.out; have := HMN.out; have := HJ.out; dsimp only at *; omega)
            have AL := keep (fun X => (below_lay W2.drew X : Below W2.heap.size W2.drew (W2.drew.alloc X)))
            refine wp_region_held_drew (S := (fun w' => w'.cell? ⟨b, 2, none⟩ = some (.int .i64 q.ct) ∧ w'.cell? ⟨B, 0, none⟩ = some (.int .u8 xk) ∧ w'.cell? ⟨B, 1, none⟩ = some (.int .u8 xf) ∧ w'.cell? ⟨B, 2, none⟩ = some (.int .u32 nv) ∧ w'.cell? ⟨B, 3, none⟩ = some (.int .u32 xb) ∧ w'.cell? ⟨B, 4, none⟩ = some (.int .u16 xo) ∧ w'.cell? ⟨B, 5, none⟩ = some (.int .u16 xs) ∧ w'.cell? ⟨B, 6, none⟩ = some (.int .u32 xp) ∧ w'.cell? ⟨B, 7, none⟩ = some (.slice x1 x2 x3) ∧ w'.cell? ⟨B, 8, none⟩ = some (.slice x4 x5 x6) ∧ w'.cell? ⟨B, 9, none⟩ = some (.slice x7 x8 x9) ∧ w'.cell? ⟨B, 10, none⟩ = some (.slice x10 x11 x12) ∧ w'.cell? ⟨B, 11, none⟩ = some (.slice x13 x14 x15))) (by kernel_rfl) (HS.out _ rfl rfl) (fun hHeld => ?_)
            refine wpAnyH_take (i := 0) (oi := ⟨some 67, _, _, _, _, _⟩) (v := ?vp1x0) rfl (by kernel_rfl) (by kernel_rfl) (by kernel_rfl) (fun _ _ _ h => h) (Or.inl ⟨by rfl, ?hyp1x0⟩) (by assumption) ?restp1x0
            case hyp1x0 => (intro wz hSw; (try dsimp only at hSw); go_simp <;> (try with_reducible rfl))
            try simp only [Act.put, List.setIfInBounds_toArray, List.set_cons_zero, List.set_cons_succ]
            refine wpAnyH_take (i := 1) (oi := ⟨some 68, _, _, _, _, _⟩) (v := ?vp2x1) rfl (by kernel_rfl) (by kernel_rfl) (by kernel_rfl) (fun _ _ _ h => h) (Or.inl ⟨by rfl, ?hyp2x1⟩) (by assumption) ?restp2x1
            case hyp2x1 => (intro wz hSw; (try dsimp only at hSw); go_simp <;> (try with_reducible rfl))
            try simp only [Act.put, List.setIfInBounds_toArray, List.set_cons_zero, List.set_cons_succ]
            refine wpAnyH_take (i := 2) (oi := ⟨some 69, _, _, _, _, _⟩) (v := ?vp3x2) rfl (by kernel_rfl) (by kernel_rfl) (by kernel_rfl) (fun _ _ _ h => h) (Or.inl ⟨by rfl, ?hyp3x2⟩) (by assumption) ?restp3x2
            case hyp3x2 => (intro wz hSw; (try dsimp only at hSw); go_simp <;> (try with_reducible rfl))
            try simp only [Act.put, List.setIfInBounds_toArray, List.set_cons_zero, List.set_cons_succ]
            refine wpAnyH_take (i := 3) (oi := ⟨some 70, _, _, _, _, _⟩) (v := ?vp4x3) rfl (by kernel_rfl) (by kernel_rfl) (by kernel_rfl) (fun _ _ _ h => h) (Or.inl ⟨by rfl, ?hyp4x3⟩) (by assumption) ?restp4x3
            case hyp4x3 => (intro wz hSw; (try dsimp only at hSw); go_simp <;> (try with_reducible rfl))
            try simp only [Act.put, List.setIfInBounds_toArray, List.set_cons_zero, List.set_cons_succ]
            refine wpAnyH_take (i := 5) (oi := ⟨some 72, _, _, _, _, _⟩) (v := ?vp5x5) rfl (by kernel_rfl) (by kernel_rfl) (by kernel_rfl) (fun _ _ _ h => h) (Or.inl ⟨by rfl, ?hyp5x5⟩) (by assumption) ?restp5x5
            case hyp5x5 => (intro wz hSw; (try dsimp only at hSw); go_simp <;> (try with_reducible rfl))
            try simp only [Act.put, List.setIfInBounds_toArray, List.set_cons_zero, List.set_cons_succ]
            refine wpAnyH_take (i := 6) (oi := ⟨some 73, _, _, _, _, _⟩) (v := ?vp6x6) rfl (by kernel_rfl) (by kernel_rfl) (by kernel_rfl) (fun _ _ _ h => h) (Or.inl ⟨by rfl, ?hyp6x6⟩) (by assumption) ?restp6x6
            case hyp6x6 => (intro wz hSw; (try dsimp only at hSw); go_simp <;> (try with_reducible rfl))
            try simp only [Act.put, List.setIfInBounds_toArray, List.set_cons_zero, List.set_cons_succ]
            refine wpAnyH_take (i := 7) (oi := ⟨some 74, _, _, _, _, _⟩) (v := ?vp7x7) rfl (by kernel_rfl) (by kernel_rfl) (by kernel_rfl) (fun _ _ _ h => h) (Or.inl ⟨by rfl, ?hyp7x7⟩) (by assumption) ?restp7x7
            case hyp7x7 => (intro wz hSw; (try dsimp only at hSw); go_simp <;> (try with_reducible rfl))
            try simp only [Act.put, List.setIfInBounds_toArray, List.set_cons_zero, List.set_cons_succ]
            refine wpAnyH_take (i := 8) (oi := ⟨some 75, _, _, _, _, _⟩) (v := ?vp8x8) rfl (by kernel_rfl) (by kernel_rfl) (by kernel_rfl) (fun _ _ _ h => h) (Or.inl ⟨by rfl, ?hyp8x8⟩) (by assumption) ?restp8x8
            case hyp8x8 => (intro wz hSw; (try dsimp only at hSw); go_simp <;> (try with_reducible rfl))
            try simp only [Act.put, List.setIfInBounds_toArray, List.set_cons_zero, List.set_cons_succ]
            refine wpAnyH_take (i := 9) (oi := ⟨some 76, _, _, _, _, _⟩) (v := ?vp9x9) rfl (by kernel_rfl) (by kernel_rfl) (by kernel_rfl) (fun _ _ _ h => h) (Or.inl ⟨by rfl, ?hyp9x9⟩) (by assumption) ?restp9x9
            case hyp9x9 => (intro wz hSw; (try dsimp only at hSw); go_simp <;> (try with_reducible rfl))
            try simp only [Act.put, List.setIfInBounds_toArray, List.set_cons_zero, List.set_cons_succ]
            refine wpAnyH_take (i := 10) (oi := ⟨some 77, _, _, _, _, _⟩) (v := ?vp10x10) rfl (by kernel_rfl) (by kernel_rfl) (by kernel_rfl) (fun _ _ _ h => h) (Or.inl ⟨by rfl, ?hyp10x10⟩) (by assumption) ?restp10x10
            case hyp10x10 => (intro wz hSw; (try dsimp only at hSw); go_simp <;> (try with_reducible rfl))
            try simp only [Act.put, List.setIfInBounds_toArray, List.set_cons_zero, List.set_cons_succ]
            refine wpAnyH_take (i := 11) (oi := ⟨some 78, _, _, _, _, _⟩) (v := ?vp11x11) rfl (by kernel_rfl) (by kernel_rfl) (by kernel_rfl) (fun _ _ _ h => h) (Or.inl ⟨by rfl, ?hyp11x11⟩) (by assumption) ?restp11x11
            case hyp11x11 => (intro wz hSw; (try dsimp only at hSw); go_simp <;> (try with_reducible rfl))
            try simp only [Act.put, List.setIfInBounds_toArray, List.set_cons_zero, List.set_cons_succ]
            refine wpAnyH_take (i := 12) (oi := ⟨some 79, _, _, _, _, _⟩) (v := ?vp12x12) rfl (by kernel_rfl) (by kernel_rfl) (by kernel_rfl) (fun _ _ _ h => h) (Or.inl ⟨by rfl, ?hyp12x12⟩) (by assumption) ?restp12x12
            case hyp12x12 => (intro wz hSw; (try dsimp only at hSw); go_simp <;> (try with_reducible rfl))
            try simp only [Act.put, List.setIfInBounds_toArray, List.set_cons_zero, List.set_cons_succ]
            refine wpAnyH_ready (rs := [4, 13]) (by kernel_rfl) (by simp) (AllReadyH.cons (o := ⟨some 71, _, _, _, _, _⟩) rfl (fun K hK => ?pa) (AllReadyH.cons (o := ⟨some 80, _, _, _, _, _⟩) rfl (fun K hK => ?pb) AllReadyH.nil))
            case pa =>
              go_simp
              refine hK.out _ _ (HS.out _ rfl rfl) (fun hHeld => ?_)
              clear hK K
              try simp only [Act.put, List.setIfInBounds_toArray, List.set_cons_zero, List.set_cons_succ]
              refine wpAnyH_ready (rs := [13]) (by kernel_rfl) (by simp) (AllReadyH.cons (o := ⟨some 80, _, _, _, _, _⟩) rfl (fun K hK => ?_) AllReadyH.nil)
              go_simp
              refine hK.out _ _ (HS.out _ ((AL.out _).block b HBW.out) ((AL.out _).block B HBs2.out)) (fun hHeld => ?_)
              clear hK K
              try simp only [Act.put, List.setIfInBounds_toArray, List.set_cons_zero, List.set_cons_succ]
              refine wpAnyH_ready (rs := [14]) (by kernel_rfl) (by simp) (AllReadyH.cons (o := ⟨some 81, _, _, _, _, _⟩) rfl (fun K hK => ?_) AllReadyH.nil)
              refine step_append_at rfl (.tmp 71) (.tmp 80) 57 rfl w.heap.size 91 e0 _ 19 200 Try.underlying57 he0 ez0 ez1 ez2 rfl (by decide) (.slice sj1 sj2 sj3) sj2 (flatF RE.cells (q.rs ++ (ls.take j).mapIdx (rNew q un tr))) rfl (HRW.out.alloc _) ⟨W2.heap.size, 0, none⟩ 1 1 [.int .u8 xk, .int .u8 xf, .int .u32 nv, .int .u32 xb, .int .u16 xo, .int .u16 xs, .int .u32 xp, .slice x1 x2 x3, .slice x4 x5 x6, .slice x7 x8 x9, .slice x10 x11 x12, .slice x13 x14 x15, .int .i64 q.ct, .int .i64 0, .int .i64 0, .int .i64 0, .int .i64 0, .int .i64 un, .int .i64 tr] rfl rfl (lay_add (W := W2.drew)) (by simp [Value.oneCell']) HMX.out.1 HMX.out.2.1 (Nat.le_trans HMX.out.2.2 (AL.out _).size) ?_
              intro A5 c5 w5 ho5 hg5 hl5
              have HP5 := keep (show Part (fun i => (Value.slice sj1 sj2 sj3).ownBlock = some i) W2 w5 from (Part.of_below _ ((Below.refl _ W2).drew.alloc (Nat.le_refl _) _)).trans (Part.of_grown hg5.out fun k hk => hk) fun i hi => .inl hi)
              have H6 := keep (HR2.out.1.app (r := ⟨⟨xk, xf, nv, xb, xo, xs, xp, ⟨x1, x2, x3⟩, ⟨x4, x5, x6⟩, ⟨x7, x8, x9⟩, ⟨x10, x11, x12⟩, ⟨x13, x14, x15⟩, xbl, xdu, xsk, xpr, xbs⟩, q.ct, 0, 0, 0, 0, un, tr⟩) ho5.out HP5.out (fun i hi => by rcases hl5.out with h1 | h1; exact .inl (by rw [← h1]; exact hi); rw [h1] at hi; injection hi with hi; exact .inr (by rw [← hi]; exact (AL.out _).size)) HZN.out HLE.out)
              have HNB := keep (show ¬ (Value.slice sj1 sj2 sj3).ownBlock = some B from fun e => by obtain ⟨cur, fr, hcur⟩ := own_cells HR2.out.1.row e; exact cells_cells hcur HBX2.out (by decide) rfl)
              have HS5 := keep (HS.out w5 (HP5.out.block b HBW.out HR2.out.1.nob) (HP5.out.block B HBs2.out HNB.out))
              have hb5 := (HP5.out.block b HBW.out HR2.out.1.nob).trans HR2.out.1.blk
              have c05 := upd_cell hb5 0 _ rfl
              have f05 := upd_fz hb5 0
              have HS6 := keep (show (fun w' => w'.cell? ⟨b, 2, none⟩ = some (.int .i64 q.ct) ∧ w'.cell? ⟨B, 0, none⟩ = some (.int .u8 xk) ∧ w'.cell? ⟨B, 1, none⟩ = some (.int .u8 xf) ∧ w'.cell? ⟨B, 2, none⟩ = some (.int .u32 nv) ∧ w'.cell? ⟨B, 3, none⟩ = some (.int .u32 xb) ∧ w'.cell? ⟨B, 4, none⟩ = some (.int .u16 xo) ∧ w'.cell? ⟨B, 5, none⟩ = some (.int .u16 xs) ∧ w'.cell? ⟨B, 6, none⟩ = some (.int .u32 xp) ∧ w'.cell? ⟨B, 7, none⟩ = some (.slice x1 x2 x3) ∧ w'.cell? ⟨B, 8, none⟩ = some (.slice x4 x5 x6) ∧ w'.cell? ⟨B, 9, none⟩ = some (.slice x7 x8 x9) ∧ w'.cell? ⟨B, 10, none⟩ = some (.slice x10 x11 x12) ∧ w'.cell? ⟨B, 11, none⟩ = some (.slice x13 x14 x15)) (w5.setCell ⟨b, 0, none⟩ (.slice A5 (sj2 + 1) c5)) from ⟨H6.out.1.b0.2.2.1, box12 (((part_set w5 b 0 (.slice A5 (sj2 + 1) c5)).block B (Nat.lt_of_lt_of_le HBs2.out HP5.out.size) (fun e => HBb.out e.symm)).trans ((HP5.out.block B HBs2.out HNB.out).trans HBX2.out))⟩)
              clear hb5 ho5 hg5 hl5 c0 c0w
              refine hK.out _ _ HS5.out (fun hHeld => ?_)
              clear hK K
              try simp only [Act.put, List.setIfInBounds_toArray, List.set_cons_zero, List.set_cons_succ]
              refine wpAnyH_take (i := 15) (oi := ⟨some 82, _, _, _, _, _⟩) (v := ?vqa1x15) rfl (by kernel_rfl) (by kernel_rfl) (by kernel_rfl) (fun _ _ _ h => h) (Or.inl ⟨by rfl, ?hyqa1x15⟩) (by assumption) ?restqa1x15
              case hyqa1x15 => (intro wz hSw; (try dsimp only at hSw); go_simp <;> (try with_reducible rfl))
              try simp only [Act.put, List.setIfInBounds_toArray, List.set_cons_zero, List.set_cons_succ]
              refine wpAnyH_take (i := 16) (oi := ⟨some 83, _, _, _, _, _⟩) (v := ?vqa2x16) rfl (by kernel_rfl) (by kernel_rfl) (by kernel_rfl) (fun _ _ _ h => h) (Or.inl ⟨by rfl, ?hyqa2x16⟩) (by assumption) ?restqa2x16
              case hyqa2x16 => (intro wz hSw; (try dsimp only at hSw); go_simp <;> (try with_reducible rfl))
              try simp only [Act.put, List.setIfInBounds_toArray, List.set_cons_zero, List.set_cons_succ]
              refine wpAnyH_ready (rs := [17]) (by kernel_rfl) (by simp) (AllReadyH.cons (o := ⟨none, _, _, _, _, _⟩) rfl (fun K hK => ?_) AllReadyH.nil)
              go_simp
              refine hK.out _ _ HS6.out (fun hHeld => ?_)
              clear hK K
              try simp only [Act.put, List.setIfInBounds_toArray, List.set_cons_zero, List.set_cons_succ]
              refine wpAnyH_done (by kernel_rfl) ?_ _
              go_wp2
              go_roundw
              case rel =>
                refine ⟨j + 1, (A5, sj2 + 1, c5), by have := HJ.out; omega, by go_num, keep ⟨?_, ?_, fun i hi => ?_⟩⟩
                · rw [mapIdx_step HX.out]
                  have h1 := H6.out.1
                  dsimp only at h1
                  rw [← List.append_assoc, show (q.nx + ((j + 1 : Nat) : Int)) % 4294967296 = (nv + 1) % 4294967296 by have := HNV.out; omega]
                  unfold rNew
                  rw [HNV.out]
                  exact h1
                · exact ((HI.out.pt.trans (Part.of_below (fun _ => False) HB1.out) fun i h => h.elim).trans HR2.out.2 fun i h => HI.out.ow i h).trans H6.out.2.1 fun i h => HI.out.ow i h
                · have hsz : ws.heap.size ≤ W2.heap.size := Nat.le_trans HI.out.pt.size (Nat.le_trans HB1.out.size HR2.out.2.size)
                  rcases H6.out.2.2 i hi with h1 | h1
                  · exact HI.out.ow i h1
                  · exact .inr (Nat.le_trans hsz h1)
              case measure => have := HJ.out; simp [intOf]; omega
            case pb =>
              go_simp
              refine hK.out _ _ (HS.out _ ((AL.out _).block b HBW.out) ((AL.out _).block B HBs2.out)) (fun hHeld => ?_)
              clear hK K
              try simp only [Act.put, List.setIfInBounds_toArray, List.set_cons_zero, List.set_cons_succ]
              refine wpAnyH_ready (rs := [4]) (by kernel_rfl) (by simp) (AllReadyH.cons (o := ⟨some 71, _, _, _, _, _⟩) rfl (fun K hK => ?_) AllReadyH.nil)
              go_simp
              refine hK.out _ _ (HS.out _ ((AL.out _).block b HBW.out) ((AL.out _).block B HBs2.out)) (fun hHeld => ?_)
              clear hK K
              try simp only [Act.put, List.setIfInBounds_toArray, List.set_cons_zero, List.set_cons_succ]
              refine wpAnyH_ready (rs := [14]) (by kernel_rfl) (by simp) (AllReadyH.cons (o := ⟨some 81, _, _, _, _, _⟩) rfl (fun K hK => ?_) AllReadyH.nil)
              refine step_append_at rfl (.tmp 71) (.tmp 80) 57 rfl w.heap.size 91 e0 _ 19 200 Try.underlying57 he0 ez0 ez1 ez2 rfl (by decide) (.slice sj1 sj2 sj3) sj2 (flatF RE.cells (q.rs ++ (ls.take j).mapIdx (rNew q un tr))) rfl (HRW.out.alloc _) ⟨W2.heap.size, 0, none⟩ 1 1 [.int .u8 xk, .int .u8 xf, .int .u32 nv, .int .u32 xb, .int .u16 xo, .int .u16 xs, .int .u32 xp, .slice x1 x2 x3, .slice x4 x5 x6, .slice x7 x8 x9, .slice x10 x11 x12, .slice x13 x14 x15, .int .i64 q.ct, .int .i64 0, .int .i64 0, .int .i64 0, .int .i64 0, .int .i64 un, .int .i64 tr] rfl rfl (lay_add (W := W2.drew)) (by simp [Value.oneCell']) HMX.out.1 HMX.out.2.1 (Nat.le_trans HMX.out.2.2 (AL.out _).size) ?_
              intro A5 c5 w5 ho5 hg5 hl5
              have HP5 := keep (show Part (fun i => (Value.slice sj1 sj2 sj3).ownBlock = some i) W2 w5 from (Part.of_below _ ((Below.refl _ W2).drew.alloc (Nat.le_refl _) _)).trans (Part.of_grown hg5.out fun k hk => hk) fun i hi => .inl hi)
              have H6 := keep (HR2.out.1.app (r := ⟨⟨xk, xf, nv, xb, xo, xs, xp, ⟨x1, x2, x3⟩, ⟨x4, x5, x6⟩, ⟨x7, x8, x9⟩, ⟨x10, x11, x12⟩, ⟨x13, x14, x15⟩, xbl, xdu, xsk, xpr, xbs⟩, q.ct, 0, 0, 0, 0, un, tr⟩) ho5.out HP5.out (fun i hi => by rcases hl5.out with h1 | h1; exact .inl (by rw [← h1]; exact hi); rw [h1] at hi; injection hi with hi; exact .inr (by rw [← hi]; exact (AL.out _).size)) HZN.out HLE.out)
              have HNB := keep (show ¬ (Value.slice sj1 sj2 sj3).ownBlock = some B from fun e => by obtain ⟨cur, fr, hcur⟩ := own_cells HR2.out.1.row e; exact cells_cells hcur HBX2.out (by decide) rfl)
              have HS5 := keep (HS.out w5 (HP5.out.block b HBW.out HR2.out.1.nob) (HP5.out.block B HBs2.out HNB.out))
              have hb5 := (HP5.out.block b HBW.out HR2.out.1.nob).trans HR2.out.1.blk
              have c05 := upd_cell hb5 0 _ rfl
              have f05 := upd_fz hb5 0
              have HS6 := keep (show (fun w' => w'.cell? ⟨b, 2, none⟩ = some (.int .i64 q.ct) ∧ w'.cell? ⟨B, 0, none⟩ = some (.int .u8 xk) ∧ w'.cell? ⟨B, 1, none⟩ = some (.int .u8 xf) ∧ w'.cell? ⟨B, 2, none⟩ = some (.int .u32 nv) ∧ w'.cell? ⟨B, 3, none⟩ = some (.int .u32 xb) ∧ w'.cell? ⟨B, 4, none⟩ = some (.int .u16 xo) ∧ w'.cell? ⟨B, 5, none⟩ = some (.int .u16 xs) ∧ w'.cell? ⟨B, 6, none⟩ = some (.int .u32 xp) ∧ w'.cell? ⟨B, 7, none⟩ = some (.slice x1 x2 x3) ∧ w'.cell? ⟨B, 8, none⟩ = some (.slice x4 x5 x6) ∧ w'.cell? ⟨B, 9, none⟩ = some (.slice x7 x8 x9) ∧ w'.cell? ⟨B, 10, none⟩ = some (.slice x10 x11 x12) ∧ w'.cell? ⟨B, 11, none⟩ = some (.slice x13 x14 x15)) (w5.setCell ⟨b, 0, none⟩ (.slice A5 (sj2 + 1) c5)) from ⟨H6.out.1.b0.2.2.1, box12 (((part_set w5 b 0 (.slice A5 (sj2 + 1) c5)).block B (Nat.lt_of_lt_of_le HBs2.out HP5.out.size) (fun e => HBb.out e.symm)).trans ((HP5.out.block B HBs2.out HNB.out).trans HBX2.out))⟩)
              clear hb5 ho5 hg5 hl5 c0 c0w
              refine hK.out _ _ HS5.out (fun hHeld => ?_)
              clear hK K
              try simp only [Act.put, List.setIfInBounds_toArray, List.set_cons_zero, List.set_cons_succ]
              refine wpAnyH_take (i := 15) (oi := ⟨some 82, _, _, _, _, _⟩) (v := ?vqb1x15) rfl (by kernel_rfl) (by kernel_rfl) (by kernel_rfl) (fun _ _ _ h => h) (Or.inl ⟨by rfl, ?hyqb1x15⟩) (by assumption) ?restqb1x15
              case hyqb1x15 => (intro wz hSw; (try dsimp only at hSw); go_simp <;> (try with_reducible rfl))
              try simp only [Act.put, List.setIfInBounds_toArray, List.set_cons_zero, List.set_cons_succ]
              refine wpAnyH_take (i := 16) (oi := ⟨some 83, _, _, _, _, _⟩) (v := ?vqb2x16) rfl (by kernel_rfl) (by kernel_rfl) (by kernel_rfl) (fun _ _ _ h => h) (Or.inl ⟨by rfl, ?hyqb2x16⟩) (by assumption) ?restqb2x16
              case hyqb2x16 => (intro wz hSw; (try dsimp only at hSw); go_simp <;> (try with_reducible rfl))
              try simp only [Act.put, List.setIfInBounds_toArray, List.set_cons_zero, List.set_cons_succ]
              refine wpAnyH_ready (rs := [17]) (by kernel_rfl) (by simp) (AllReadyH.cons (o := ⟨none, _, _, _, _, _⟩) rfl (fun K hK => ?_) AllReadyH.nil)
              go_simp
              refine hK.out _ _ HS6.out (fun hHeld => ?_)
              clear hK K
              try simp only [Act.put, List.setIfInBounds_toArray, List.set_cons_zero, List.set_cons_succ]
              refine wpAnyH_done (by kernel_rfl) ?_ _
              go_wp2
              go_roundw
              case rel =>
                refine ⟨j + 1, (A5, sj2 + 1, c5), by have := HJ.out; omega, by go_num, keep ⟨?_, ?_, fun i hi => ?_⟩⟩
                · rw [mapIdx_step HX.out]
                  have h1 := H6.out.1
                  dsimp only at h1
                  rw [← List.append_assoc, show (q.nx + ((j + 1 : Nat) : Int)) % 4294967296 = (nv + 1) % 4294967296 by have := HNV.out; omega]
                  unfold rNew
                  rw [HNV.out]
                  exact h1
                · exact ((HI.out.pt.trans (Part.of_below (fun _ => False) HB1.out) fun i h => h.elim).trans HR2.out.2 fun i h => HI.out.ow i h).trans H6.out.2.1 fun i h => HI.out.ow i h
                · have hsz : ws.heap.size ≤ W2.heap.size := Nat.le_trans HI.out.pt.size (Nat.le_trans HB1.out.size HR2.out.2.size)
                  rcases H6.out.2.2 i hi with h1 | h1
                  · exact HI.out.ow i h1
                  · exact .inr (Nat.le_trans hsz h1)
              case measure => have := HJ.out; simp [intOf]; omega
          · obtain rfl : n = j := by omega
            have hc1 : (0 : Int) ≤ q.ct := HCT.out.1
            have hc2 : q.ct ≤ 1000000 := HCT.out.2
            have HF := keep (HI.out.ra.putC (q.ct + 1))
            have HQ := keep (show q2 = rPsh q ls un tr from by rw [← HQ2.out, HR2.out, if_pos rfl])
            try dsimp only at c0
            go_wp2
            go_ret
            rw [HR2.out]
            refine ⟨rfl, sj.1, sj.2.1, sj.2.2, keep ⟨?_, HI.out.pt.trans HF.out.2 fun i h => HI.out.ow i h, HI.out.ow⟩⟩
            rw [HQ.out]
            have h1 := HF.out.1
            try dsimp only at h1
            unfold rPsh
            rw [HNL.out, List.take_length] at h1
            exact h1
end
end
end Go.Proofs.Ytffjdknmfmlfnaa
