/- KAT of the stage: texts JC, JD, JE, JN, joined. -/
import Derived.Deep.RegionHeld3
import Derived.Maps.AppendAt
import Derived.Test.YtnlkdlnmffibhaaGreatKAS
import Derived.Test.YtnlkdlnmffibhaaGreatKAB
import Derived.Deep.QuietTactic
import Derived.BigQuiet
set_option linter.unusedSimpArgs false
set_option linter.unusedVariables false
set_option maxRecDepth 8000
namespace Go.Proofs.YtnlkdlnmffibhaaGreat
open List renaming setIfInBounds_toArray → lA, set_cons_zero → lZ, set_cons_succ → lS
open Go renaming wpAnyH_take → wT
open Go.Act renaming put → aP
section
open Go.RowKit Go.Maps
theorem step_appendA_jo {P : Program} {w : World} {ops : Array Oper} {o : Oper} {a : Act} {Q : Exit → Act → World → Prop} {S : Nat} {K : Act → World → Prop} {E : Prop} (hS : 0 < S) (hgd : o.guard = none) (s x : Operand) (t : TypeId) (ho : o.op = .call { callee := .builtin .append, args := #[s, x], argTypes := #[t, t] })
    (base : Nat) (e : TypeId) (i : TypeInfo) (z : Value) (ht : P.underlying t = some (.slice e)) (hi : P.info? e = some i) (hz : i.zero = some z) (hsize : i.size = S) (hz1 : z.cells.size = S)
    (v : Value) (n : Nat) (xs : List Value) (hs : a.eval s = v) (hown : w.ownsRow base e S v n xs) (b : Addr) (m c : Nat) (news : List Value) (hx : a.eval x = .slice (some b) m c) (hm : news.length = m * S) (hr : ∀ j u, news[j]? = some u → w.cell? (b.add j) = some u) (h1 : ∀ u ∈ news, u.oneCell' = true)
    (h63 : n + m ≤ maxLen) (hbytes : (n + m) * i.bytes ≤ 140737488355328) (hbase : base ≤ w.heap.size)
    (h : ∀ A' c' w', w'.ownsRow base e S (.slice A' (n + m) c') (n + m) (xs ++ news) → w.grownBy w' v.ownBlock → ((Value.slice A' (n + m) c').ownBlock = v.ownBlock ∨ (Value.slice A' (n + m) c').ownBlock = some w.heap.size) → K (a.put o.dst (.slice A' (n + m) c')) w') : if Region.wanted o (yielded ops a.tmps) = true then Oper.wp P o a w K Q else E := by
  have hw : Region.wanted o (yielded ops a.tmps) = true := by simp [Region.wanted, hgd]
  rw [if_pos hw]
  obtain ⟨v', w', hrun, h2, h3, _, h5⟩ := run_append_own_at (P := P) w base t o.type e i z S i.bytes ht hi hz hsize rfl hz1 hS v n xs hown b m c news hm hr h1 h63 hbytes hbase
  obtain ⟨A', c', rfl, _⟩ := own_shape2' h2
  unfold Oper.wp execOp
  simp only [ho, resolve, invoke, builtin, Sem.run_bind, Sem.run_pure, Result.andThen_ok, List.map_toArray, List.map_cons, List.map_nil, hs, hx, hrun]
  exact h A' c' w' h2 h3 h5
theorem laid4_jo (w : World) (t : TypeId) (x0 x1 x2 x3 : Value) : ∀ j u, [x0, x1, x2, x3][j]? = some u → (w.alloc (.cells #[x0, x1, x2, x3] t)).cell? ((⟨w.heap.size, 0, none⟩ : Addr).add j) = some u := by
  intro j u hj
  rw [Addr.add_lit, Nat.zero_add, cell_of_row _ _ _ _ _ _ (heap_alloc_new w _)]
  simpa using hj
theorem MX.one (x : MX) : ∀ u ∈ x.cells, u.oneCell' = true := by
  intro u hu
  simp only [MX.cells, List.mem_cons, List.not_mem_nil, or_false] at hu
  rcases hu with rfl | rfl | rfl | rfl <;> rfl
theorem JA.vshape {w : World} {G : Gh} {j : Jn} {o : Int} (h : JA w G j o) : ∃ A c, G.v = .slice A G.rs.length c := by
  obtain ⟨A, c, hv, _⟩ := own_shape2' h.ra.row
  exact ⟨A, c, hv⟩
def relJ (j : Jn) (s : Int) (m : Msg) : Jn := { j with st := delS j.st s (j.nx s), rd := j.rd ++ [m] }
set_option maxHeartbeats 4000000 in
theorem release_some {w : World} {G : Gh} {j : Jn} {o : Int} (h : JA w G j o) (hw : Good j) {s : Nat} (hs : s < G.n) {m : Msg} (hm : hasS j.st s (j.nx s) = some m) :
    Calls Tryz.prog 129 #[.pointer (some ⟨G.b, 0, none⟩), .pointer (some ⟨G.sb, s * 2, none⟩)] w fun e w' => e = .returned (.bool true) ∧ ∃ G', JA w' G' (relJ j s m) o ∧ Later w G w' G' ∧ G'.far = G.far := by
  have H := keep h
  have HG := keep hw
  have hlt := h.olt _ h.sa.osb
  have hltm := h.olt _ (h.sa.ow s hs)
  have hltb := h.olt _ h.ob
  obtain ⟨x, hx, hxm⟩ : ∃ x, G.gs s (j.nx s) = some x ∧ x.msg = m := by
    have := h.sa.msg s hs (j.nx s)
    rw [hm] at this
    cases hg : G.gs s (j.nx s) with
    | none => rw [hg] at this; cases this
    | some x => rw [hg] at this; exact ⟨x, rfl, by injection this⟩
  have hg : wgV (G.gs s) (j.nx s) = some (.agg x.cells.toArray) := by rw [wgV_at, hx]; rfl
  have HR := rel_look h hw.wf hs
  have HW := keep (wf16 (hw.wf.nx s).1 (hw.wf.nx s).2)
  have HX := keep (h.sa.vs s hs _ x hx)
  rw [hg] at HR
  dsimp only [Option.getD, Option.isSome, MX.cells] at HR
  obtain ⟨s0, s1, s2⟩ := HR w rfl rfl
  replace HR := keep HR
  have HM := keep hm
  have HXM := keep hxm
  have HS := keep hs
  have HGX := keep hx
  clear h hg hw hs hm hxm hx
  obtain ⟨b, k, sb, n, v, pb, pc, far, wm, gs, rs, O, F⟩ := G
  obtain ⟨xs, xu, xp, ⟨x1, x2, x3⟩, xb⟩ := x
  dsimp only at *
  obtain ⟨nx, hnx⟩ : ∃ nx, j.nx s = nx := ⟨_, rfl⟩
  obtain ⟨wms, hwms⟩ : ∃ k, wm s = k := ⟨_, rfl⟩
  rw [hnx] at s1 s2 HR HW
  rw [hwms] at s0 s2 HR hltm
  have HNX := keep hnx
  have HWM := keep hwms
  have hne : sb ≠ w.heap.size := by omega
  have hnm : wms ≠ w.heap.size := by omega
  clear hnx hwms
  go_enter Tryz.func129, Tryz.ntmps129
  go_wp2
  go_region_held3 (fun w' => w'.cell? ⟨sb, s * 2, none⟩ = some (.map (some wms)) ∧ w'.cell? ⟨sb, s * 2 + 1, none⟩ = some (.int .u16 nx) ∧ (Instr.lookup 149 (.map (some wms)) (.int .u16 nx) true).run Tryz.prog w' = .ok (.tuple #[.agg #[.int .u16 xs, .bool xu, .int .u32 xp, .slice x1 x2 x3], .bool true]) w')
    (first | exact HR.out _ rfl rfl | exact HR.out _ (same_lay rfl hlt) (same_lay rfl hltm) | exact HR.out _ (same_set (same_lay rfl hlt) hne) (same_set (same_lay rfl hltm) hnm) | exact HR.out _ (same_set (same_set (same_lay rfl hlt) hne) hne) (same_set (same_set (same_lay rfl hltm) hnm) hnm) | exact HR.out _ (same_set (same_set (same_set (same_lay rfl hlt) hne) hne) hne) (same_set (same_set (same_set (same_lay rfl hltm) hnm) hnm) hnm) | exact HR.out _ (same_set (same_set (same_set (same_set (same_lay rfl hlt) hne) hne) hne) hne) (same_set (same_set (same_set (same_set (same_lay rfl hltm) hnm) hnm) hnm) hnm))
    (first | fail)
  · have hl0 := below_lay w (.cells #[.int .u16 xs, .bool xu, .int .u32 xp, .slice x1 x2 x3] 33)
    have J0 := keep (And.intro (H.out.step hl0.drew) (And.intro (show MB (w.alloc (.cells #[.int .u16 xs, .bool xu, .int .u32 xp, .slice x1 x2 x3] 33)).drew w.heap.size ⟨xs, xu, xp, (x1, x2, x3), xb⟩ from heap_alloc_new w _) (And.intro hl0.drew (show w.heap.size < (w.alloc (.cells #[.int .u16 xs, .bool xu, .int .u32 xp, .slice x1 x2 x3] 33)).drew.heap.size by simp [World.drew]))))
    clear hl0 s0 s1 s2 HR
    generalize (World.alloc _ _).drew = W at J0 ⊢
    have t0 := J0.out.1.s0 HS.out
    have t1 := J0.out.1.s1 HS.out
    dsimp only at t0 t1
    rw [HNX.out] at t1
    rw [HWM.out] at t0
    go_wp2
    refine wp_region_still_tail 8 (by kernel_rfl) (by kernel_rfl) ?_
    simp only [List.take_succ_cons, List.take_zero, List.drop_succ_cons, List.drop_zero]
    repeat still_step
    refine wpStill_nil ?_
    have JD := J0.out.1.step ((Below.refl _ W).drew)
    have HMP := JD.sa.maps s HS.out
    have hks := HG.out.wf.ks
    refine wpl_del _ rfl _ _ 149 rfl Tryz.underlying30 Tryz.underlying149 (by rw [← HWM.out]; rfl) (show MapV W.drew _ _ _ _ _ from HMP) rfl HW.out ?_
    intro w2 hm2 hg2 hs2
    have J2 := JD.delMsg hks HS.out (k := nx) hm2 hg2
    have hnw : w.heap.size ≠ wm s := by rw [HWM.out]; exact hnm.symm
    have HX2 := keep (MV.kept (F := F) (x := ⟨xs, xu, xp, (x1, x2, x3), xb⟩) ⟨(HX.out.1.step J0.out.2.2.1).step (Below.refl _ W).drew, HX.out.2⟩ J2.2 (JD.notF (JD.sa.ow s HS.out)))
    have M2 := (show MB w2 w.heap.size ⟨xs, xu, xp, (x1, x2, x3), xb⟩ from (J2.2.block _ J0.out.2.2.2 hnw).trans J0.out.2.1)
    obtain ⟨⟨m0, m1, m2, m3⟩, _⟩ := M2.all
    dsimp only at m0 m1 m2 m3
    replace M2 := keep M2
    have c2 := J2.1.c2
    have hltb2 := J2.1.olt _ J2.1.ob
    have hlt2 : w.heap.size < w2.heap.size := Nat.lt_of_lt_of_le J0.out.2.2.2 (show W.heap.size ≤ w2.heap.size from J2.2.size)
    obtain ⟨A, c, hv⟩ := J2.1.vshape
    dsimp only at c2 hltb2 hv
    subst hv
    have HN : rs.length + 1 ≤ 65537 := by
      have h1 := HG.out.rd
      have h2 := congrArg List.length J2.1.ra.is
      rw [List.length_map] at h2
      have h3 : rs.length = j.rd.length := h2
      omega
    have P2 := keep (((Part.of_below O J0.out.2.2.1).drew).trans (J2.2.mono (S' := O) (fun i hi => by rw [hi]; exact JD.sa.ow s HS.out)) (fun i hi => .inl hi))
    replace J2 := keep J2.1
    have HNb := keep HN
    have hnb : b ≠ w.heap.size := by omega
    have hnb' : w.heap.size ≠ b := by omega
    have HVO := keep (show ∀ g, (Value.slice A rs.length c).ownBlock = some g → g < w.heap.size from fun g e => H.out.olt _ (H.out.ra.own g e))
    have JD2 := keep (J2.out.step (Below.refl _ w2).drew)
    have HXd := keep (show MV w2.drew ⟨xs, xu, xp, (x1, x2, x3), xb⟩ ∧ InF_jo F x1 from ⟨HX2.out.1.step (Below.refl _ w2).drew, HX2.out.2⟩)
    have q3 := keep (show MB (w2.drew.alloc (.cells #[.int .u16 xs, .bool xu, .int .u32 xp, .slice x1 x2 x3] 33)) w.heap.size ⟨xs, xu, xp, (x1, x2, x3), xb⟩ from ((below_lay w2.drew _).block w.heap.size hlt2).trans M2.out).all.1
    clear JD HMP hks hm2 hg2 hs2 HN t0 t1 hnw
    obtain ⟨i0, hi0, hz0, hz1, hz2⟩ := info_parts msg_info
    go_wp2
    refine wp_region_held_drew (S := (fun w' => w'.cell? ⟨w.heap.size, 0, none⟩ = some (.int .u16 xs) ∧ w'.cell? ⟨w.heap.size, 1, none⟩ = some (.bool xu) ∧ w'.cell? ⟨w.heap.size, 2, none⟩ = some (.int .u32 xp) ∧ w'.cell? ⟨w.heap.size, 3, none⟩ = some (.slice x1 x2 x3))) (by kernel_rfl) ⟨m0, m1, m2, m3⟩ (fun hHeld => ?_)
    refine wT (i := 0) (oi := ⟨some 28, _, _, _, _, _⟩) (v := ?vy11x0) rfl (by kernel_rfl) (by kernel_rfl) (by kernel_rfl) (fun _ _ _ h => h) (Or.inl ⟨by rfl, ?hyy11x0⟩) (by assumption) ?resty11x0
    case hyy11x0 => (intro wz hSw; (try dsimp only at hSw); go_simp <;> try with_reducible rfl)
    try simp only [aP, lA, lZ, lS]
    refine wT (i := 1) (oi := ⟨some 29, _, _, _, _, _⟩) (v := ?vy12x1) rfl (by kernel_rfl) (by kernel_rfl) (by kernel_rfl) (fun _ _ _ h => h) (Or.inl ⟨by rfl, ?hyy12x1⟩) (by assumption) ?resty12x1
    case hyy12x1 => (intro wz hSw; (try dsimp only at hSw); go_simp <;> try with_reducible rfl)
    try simp only [aP, lA, lZ, lS]
    refine wT (i := 2) (oi := ⟨some 30, _, _, _, _, _⟩) (v := ?vy13x2) rfl (by kernel_rfl) (by kernel_rfl) (by kernel_rfl) (fun _ _ _ h => h) (Or.inl ⟨by rfl, ?hyy13x2⟩) (by assumption) ?resty13x2
    case hyy13x2 => (intro wz hSw; (try dsimp only at hSw); go_simp <;> try with_reducible rfl)
    try simp only [aP, lA, lZ, lS]
    refine wT (i := 3) (oi := ⟨some 31, _, _, _, _, _⟩) (v := ?vy14x3) rfl (by kernel_rfl) (by kernel_rfl) (by kernel_rfl) (fun _ _ _ h => h) (Or.inl ⟨by rfl, ?hyy14x3⟩) (by assumption) ?resty14x3
    case hyy14x3 => (intro wz hSw; (try dsimp only at hSw); go_simp <;> try with_reducible rfl)
    try simp only [aP, lA, lZ, lS]
    refine wT (i := 5) (oi := ⟨some 33, _, _, _, _, _⟩) (v := ?vy15x5) rfl (by kernel_rfl) (by kernel_rfl) (by kernel_rfl) (fun _ _ _ h => h) (Or.inl ⟨by rfl, ?hyy15x5⟩) (by assumption) ?resty15x5
    case hyy15x5 => (intro wz hSw; (try dsimp only at hSw); go_simp <;> try with_reducible rfl)
    try simp only [aP, lA, lZ, lS]
    refine wpAnyH_ready (rs := [4, 6]) (by kernel_rfl) (by simp) (AllReadyH.cons (o := ⟨some 32, _, _, _, _, _⟩) rfl (fun K hK => ?wayA1) (AllReadyH.cons (o := ⟨some 34, _, _, _, _, _⟩) rfl (fun K hK => ?wayB1) AllReadyH.nil))
    case wayA1 =>
      go_simp
      refine hK.out _ _ ⟨m0, m1, m2, m3⟩ (fun hHeld => ?_)
      clear hK K
      try simp only [aP, lA, lZ, lS]
      refine wpAnyH_ready (rs := [6]) (by kernel_rfl) (by simp) (AllReadyH.cons (o := ⟨some 34, _, _, _, _, _⟩) rfl (fun K hK => ?_) AllReadyH.nil)
      go_simp
      refine hK.out _ _ (q3.out) (fun hHeld => ?_)
      clear hK K
      try simp only [aP, lA, lZ, lS]
      refine wpAnyH_ready (rs := [7]) (by kernel_rfl) (by simp) (AllReadyH.cons (o := ⟨some 35, _, _, _, _, _⟩) rfl (fun K hK => ?_) AllReadyH.nil)
      refine step_appendA_jo (by decide) rfl (.tmp 32) (.tmp 34) 52 rfl 0 33 i0 _ Tryz.underlying52 hi0 hz0 hz1 (by rfl) _ rs.length (flatF MX.cells rs) rfl (JD2.out.ra.row.alloc _) ⟨w2.heap.size, 0, none⟩ 1 1 [.int .u16 xs, .bool xu, .int .u32 xp, .slice x1 x2 x3] rfl rfl (laid4_jo w2.drew _ _ _ _ _) (MX.one ⟨xs, xu, xp, (x1, x2, x3), xb⟩) (by have := HNb.out; unfold maxLen; omega) (by rw [hz2]; have := HNb.out; omega) (Nat.zero_le _) ?_
      intro A' c' w3 ho3 hg3 hl3
      obtain ⟨d2, f2, JJ3, P3⟩ := JD2.out.app (x := ⟨xs, xu, xp, (x1, x2, x3), xb⟩) HXd.out ho3 hg3 (hl3.elim .inl (fun e => .inr ⟨_, e, Nat.le_of_lt (by simp)⟩))
      replace JJ3 := keep JJ3
      replace P3 := keep P3
      have M3 := (show MB w3 w.heap.size ⟨xs, xu, xp, (x1, x2, x3), xb⟩ from (hg3.block w.heap.size (by simp; exact Nat.lt_succ_of_lt hlt2) (fun e => Nat.lt_irrefl _ (HVO.out _ e.symm))).trans (((below_lay w2.drew _).block w.heap.size hlt2).trans M2.out))
      obtain ⟨⟨n0, n1, n2, n3⟩, _⟩ := M3.all
      dsimp only at n0 n1 n2 n3
      have q4 := keep (show MB (w3.setCell ⟨b, 2, none⟩ (.slice A' (rs.length + 1) c')) w.heap.size ⟨xs, xu, xp, (x1, x2, x3), xb⟩ from (heap_setCell_other w3 ⟨b, 2, none⟩ w.heap.size _ hnb').trans M3)
      have HL3 := keep (show ∀ i, (Value.slice A' (rs.length + 1) c').ownBlock = some i → O i ∨ w.heap.size ≤ i from fun i hi => hl3.elim (fun e => .inl (J2.out.ra.own i (e.symm.trans hi))) (fun e => .inr (by rw [e] at hi; injection hi with hi; rw [← hi]; exact Nat.le_trans (Nat.le_of_lt hlt2) (below_lay w2 _).size)))
      clear ho3 hg3 hl3 M3
      refine hK.out _ _ ⟨n0, n1, n2, n3⟩ (fun hHeld => ?_)
      clear hK K
      try simp only [aP, lA, lZ, lS]
      refine wT (i := 8) (oi := ⟨some 36, _, _, _, _, _⟩) (v := ?vy1A6x8) rfl (by kernel_rfl) (by kernel_rfl) (by kernel_rfl) (fun _ _ _ h => h) (Or.inl ⟨by rfl, ?hyy1A6x8⟩) (by assumption) ?resty1A6x8
      case hyy1A6x8 => (intro wz hSw; (try dsimp only at hSw); go_simp <;> try with_reducible rfl)
      try simp only [aP, lA, lZ, lS]
      refine wT (i := 9) (oi := ⟨some 37, _, _, _, _, _⟩) (v := ?vy1A7x9) rfl (by kernel_rfl) (by kernel_rfl) (by kernel_rfl) (fun _ _ _ h => h) (Or.inl ⟨by rfl, ?hyy1A7x9⟩) (by assumption) ?resty1A7x9
      case hyy1A7x9 => (intro wz hSw; (try dsimp only at hSw); go_simp <;> try with_reducible rfl)
      try simp only [aP, lA, lZ, lS]
      refine wpAnyH_ready (rs := [10]) (by kernel_rfl) (by simp) (AllReadyH.cons (o := ⟨none, _, _, _, _, _⟩) rfl (fun K hK => ?_) AllReadyH.nil)
      go_simp
      (try go_wp2_with fail)
      refine hK.out _ _ (q4.out.all.1) (fun hHeld => ?_)
      clear hK K
      try simp only [aP, lA, lZ, lS]
      refine wpAnyH_done (by kernel_rfl) ?_ _
      go_wp2
      go_ret
      have e : relJ j s m = { j with st := delS j.st s nx, rd := j.rd ++ [(⟨xs, xu, xp, (x1, x2, x3), xb⟩ : MX).msg] } := by
        unfold relJ
        rw [HNX.out, HXM.out]
      rw [e]
      refine ⟨rfl, Exists.intro _ (And.intro JJ3.out (And.intro ⟨rfl, rfl, rfl, rfl, rfl, ?_, ?_, fun i hi => .inl hi⟩ rfl))⟩
      · exact P2.out.drew.trans P3.out fun i hi => .inl (by
          rcases hi with rfl | hi
          · exact J2.out.ob
          · exact J2.out.ra.own i hi)
      · exact fun i hi => hi.elim .inl (HL3.out i)
    case wayB1 =>
      go_simp
      refine hK.out _ _ (q3.out) (fun hHeld => ?_)
      clear hK K
      try simp only [aP, lA, lZ, lS]
      refine wpAnyH_ready (rs := [4]) (by kernel_rfl) (by simp) (AllReadyH.cons (o := ⟨some 32, _, _, _, _, _⟩) rfl (fun K hK => ?_) AllReadyH.nil)
      go_simp
      refine hK.out _ _ (q3.out) (fun hHeld => ?_)
      clear hK K
      try simp only [aP, lA, lZ, lS]
      refine wpAnyH_ready (rs := [7]) (by kernel_rfl) (by simp) (AllReadyH.cons (o := ⟨some 35, _, _, _, _, _⟩) rfl (fun K hK => ?_) AllReadyH.nil)
      refine step_appendA_jo (by decide) rfl (.tmp 32) (.tmp 34) 52 rfl 0 33 i0 _ Tryz.underlying52 hi0 hz0 hz1 (by rfl) _ rs.length (flatF MX.cells rs) rfl (JD2.out.ra.row.alloc _) ⟨w2.heap.size, 0, none⟩ 1 1 [.int .u16 xs, .bool xu, .int .u32 xp, .slice x1 x2 x3] rfl rfl (laid4_jo w2.drew _ _ _ _ _) (MX.one ⟨xs, xu, xp, (x1, x2, x3), xb⟩) (by have := HNb.out; unfold maxLen; omega) (by rw [hz2]; have := HNb.out; omega) (Nat.zero_le _) ?_
      intro A' c' w3 ho3 hg3 hl3
      obtain ⟨d2, f2, JJ3, P3⟩ := JD2.out.app (x := ⟨xs, xu, xp, (x1, x2, x3), xb⟩) HXd.out ho3 hg3 (hl3.elim .inl (fun e => .inr ⟨_, e, Nat.le_of_lt (by simp)⟩))
      replace JJ3 := keep JJ3
      replace P3 := keep P3
      have M3 := (show MB w3 w.heap.size ⟨xs, xu, xp, (x1, x2, x3), xb⟩ from (hg3.block w.heap.size (by simp; exact Nat.lt_succ_of_lt hlt2) (fun e => Nat.lt_irrefl _ (HVO.out _ e.symm))).trans (((below_lay w2.drew _).block w.heap.size hlt2).trans M2.out))
      obtain ⟨⟨n0, n1, n2, n3⟩, _⟩ := M3.all
      dsimp only at n0 n1 n2 n3
      have q4 := keep (show MB (w3.setCell ⟨b, 2, none⟩ (.slice A' (rs.length + 1) c')) w.heap.size ⟨xs, xu, xp, (x1, x2, x3), xb⟩ from (heap_setCell_other w3 ⟨b, 2, none⟩ w.heap.size _ hnb').trans M3)
      have HL3 := keep (show ∀ i, (Value.slice A' (rs.length + 1) c').ownBlock = some i → O i ∨ w.heap.size ≤ i from fun i hi => hl3.elim (fun e => .inl (J2.out.ra.own i (e.symm.trans hi))) (fun e => .inr (by rw [e] at hi; injection hi with hi; rw [← hi]; exact Nat.le_trans (Nat.le_of_lt hlt2) (below_lay w2 _).size)))
      clear ho3 hg3 hl3 M3
      refine hK.out _ _ ⟨n0, n1, n2, n3⟩ (fun hHeld => ?_)
      clear hK K
      try simp only [aP, lA, lZ, lS]
      refine wT (i := 8) (oi := ⟨some 36, _, _, _, _, _⟩) (v := ?vy1B8x8) rfl (by kernel_rfl) (by kernel_rfl) (by kernel_rfl) (fun _ _ _ h => h) (Or.inl ⟨by rfl, ?hyy1B8x8⟩) (by assumption) ?resty1B8x8
      case hyy1B8x8 => (intro wz hSw; (try dsimp only at hSw); go_simp <;> try with_reducible rfl)
      try simp only [aP, lA, lZ, lS]
      refine wT (i := 9) (oi := ⟨some 37, _, _, _, _, _⟩) (v := ?vy1B9x9) rfl (by kernel_rfl) (by kernel_rfl) (by kernel_rfl) (fun _ _ _ h => h) (Or.inl ⟨by rfl, ?hyy1B9x9⟩) (by assumption) ?resty1B9x9
      case hyy1B9x9 => (intro wz hSw; (try dsimp only at hSw); go_simp <;> try with_reducible rfl)
      try simp only [aP, lA, lZ, lS]
      refine wpAnyH_ready (rs := [10]) (by kernel_rfl) (by simp) (AllReadyH.cons (o := ⟨none, _, _, _, _, _⟩) rfl (fun K hK => ?_) AllReadyH.nil)
      go_simp
      (try go_wp2_with fail)
      refine hK.out _ _ (q4.out.all.1) (fun hHeld => ?_)
      clear hK K
      try simp only [aP, lA, lZ, lS]
      refine wpAnyH_done (by kernel_rfl) ?_ _
      go_wp2
      go_ret
      have e : relJ j s m = { j with st := delS j.st s nx, rd := j.rd ++ [(⟨xs, xu, xp, (x1, x2, x3), xb⟩ : MX).msg] } := by
        unfold relJ
        rw [HNX.out, HXM.out]
      rw [e]
      refine ⟨rfl, Exists.intro _ (And.intro JJ3.out (And.intro ⟨rfl, rfl, rfl, rfl, rfl, ?_, ?_, fun i hi => .inl hi⟩ rfl))⟩
      · exact P2.out.drew.trans P3.out fun i hi => .inl (by
          rcases hi with rfl | hi
          · exact J2.out.ob
          · exact J2.out.ra.own i hi)
      · exact fun i hi => hi.elim .inl (HL3.out i)
  · have hl0 := below_lay w (.cells #[.int .u16 xs, .bool xu, .int .u32 xp, .slice x1 x2 x3] 33)
    have J0 := keep (And.intro (H.out.step hl0.drew) (And.intro (show MB (w.alloc (.cells #[.int .u16 xs, .bool xu, .int .u32 xp, .slice x1 x2 x3] 33)).drew w.heap.size ⟨xs, xu, xp, (x1, x2, x3), xb⟩ from heap_alloc_new w _) (And.intro hl0.drew (show w.heap.size < (w.alloc (.cells #[.int .u16 xs, .bool xu, .int .u32 xp, .slice x1 x2 x3] 33)).drew.heap.size by simp [World.drew]))))
    clear hl0 s0 s1 s2 HR
    generalize (World.alloc _ _).drew = W at J0 ⊢
    have t0 := J0.out.1.s0 HS.out
    have t1 := J0.out.1.s1 HS.out
    dsimp only at t0 t1
    rw [HNX.out] at t1
    rw [HWM.out] at t0
    go_wp2
    refine wp_region_still_tail 8 (by kernel_rfl) (by kernel_rfl) ?_
    simp only [List.take_succ_cons, List.take_zero, List.drop_succ_cons, List.drop_zero]
    repeat still_step
    refine wpStill_nil ?_
    have JD := J0.out.1.step ((Below.refl _ W).drew)
    have HMP := JD.sa.maps s HS.out
    have hks := HG.out.wf.ks
    refine wpl_del _ rfl _ _ 149 rfl Tryz.underlying30 Tryz.underlying149 (by rw [← HWM.out]; rfl) (show MapV W.drew _ _ _ _ _ from HMP) rfl HW.out ?_
    intro w2 hm2 hg2 hs2
    have J2 := JD.delMsg hks HS.out (k := nx) hm2 hg2
    have hnw : w.heap.size ≠ wm s := by rw [HWM.out]; exact hnm.symm
    have HX2 := keep (MV.kept (F := F) (x := ⟨xs, xu, xp, (x1, x2, x3), xb⟩) ⟨(HX.out.1.step J0.out.2.2.1).step (Below.refl _ W).drew, HX.out.2⟩ J2.2 (JD.notF (JD.sa.ow s HS.out)))
    have M2 := (show MB w2 w.heap.size ⟨xs, xu, xp, (x1, x2, x3), xb⟩ from (J2.2.block _ J0.out.2.2.2 hnw).trans J0.out.2.1)
    obtain ⟨⟨m0, m1, m2, m3⟩, _⟩ := M2.all
    dsimp only at m0 m1 m2 m3
    replace M2 := keep M2
    have c2 := J2.1.c2
    have hltb2 := J2.1.olt _ J2.1.ob
    have hlt2 : w.heap.size < w2.heap.size := Nat.lt_of_lt_of_le J0.out.2.2.2 (show W.heap.size ≤ w2.heap.size from J2.2.size)
    obtain ⟨A, c, hv⟩ := J2.1.vshape
    dsimp only at c2 hltb2 hv
    subst hv
    have HN : rs.length + 1 ≤ 65537 := by
      have h1 := HG.out.rd
      have h2 := congrArg List.length J2.1.ra.is
      rw [List.length_map] at h2
      have h3 : rs.length = j.rd.length := h2
      omega
    have P2 := keep (((Part.of_below O J0.out.2.2.1).drew).trans (J2.2.mono (S' := O) (fun i hi => by rw [hi]; exact JD.sa.ow s HS.out)) (fun i hi => .inl hi))
    replace J2 := keep J2.1
    have HNb := keep HN
    have hnb : b ≠ w.heap.size := by omega
    have hnb' : w.heap.size ≠ b := by omega
    have HVO := keep (show ∀ g, (Value.slice A rs.length c).ownBlock = some g → g < w.heap.size from fun g e => H.out.olt _ (H.out.ra.own g e))
    have JD2 := keep (J2.out.step (Below.refl _ w2).drew)
    have HXd := keep (show MV w2.drew ⟨xs, xu, xp, (x1, x2, x3), xb⟩ ∧ InF_jo F x1 from ⟨HX2.out.1.step (Below.refl _ w2).drew, HX2.out.2⟩)
    have q3 := keep (show MB (w2.drew.alloc (.cells #[.int .u16 xs, .bool xu, .int .u32 xp, .slice x1 x2 x3] 33)) w.heap.size ⟨xs, xu, xp, (x1, x2, x3), xb⟩ from ((below_lay w2.drew _).block w.heap.size hlt2).trans M2.out).all.1
    clear JD HMP hks hm2 hg2 hs2 HN t0 t1 hnw
    obtain ⟨i0, hi0, hz0, hz1, hz2⟩ := info_parts msg_info
    go_wp2
    refine wp_region_held_drew (S := (fun w' => w'.cell? ⟨w.heap.size, 0, none⟩ = some (.int .u16 xs) ∧ w'.cell? ⟨w.heap.size, 1, none⟩ = some (.bool xu) ∧ w'.cell? ⟨w.heap.size, 2, none⟩ = some (.int .u32 xp) ∧ w'.cell? ⟨w.heap.size, 3, none⟩ = some (.slice x1 x2 x3))) (by kernel_rfl) ⟨m0, m1, m2, m3⟩ (fun hHeld => ?_)
    refine wT (i := 0) (oi := ⟨some 28, _, _, _, _, _⟩) (v := ?vy21x0) rfl (by kernel_rfl) (by kernel_rfl) (by kernel_rfl) (fun _ _ _ h => h) (Or.inl ⟨by rfl, ?hyy21x0⟩) (by assumption) ?resty21x0
    case hyy21x0 => (intro wz hSw; (try dsimp only at hSw); go_simp <;> try with_reducible rfl)
    try simp only [aP, lA, lZ, lS]
    refine wT (i := 1) (oi := ⟨some 29, _, _, _, _, _⟩) (v := ?vy22x1) rfl (by kernel_rfl) (by kernel_rfl) (by kernel_rfl) (fun _ _ _ h => h) (Or.inl ⟨by rfl, ?hyy22x1⟩) (by assumption) ?resty22x1
    case hyy22x1 => (intro wz hSw; (try dsimp only at hSw); go_simp <;> try with_reducible rfl)
    try simp only [aP, lA, lZ, lS]
    refine wT (i := 2) (oi := ⟨some 30, _, _, _, _, _⟩) (v := ?vy23x2) rfl (by kernel_rfl) (by kernel_rfl) (by kernel_rfl) (fun _ _ _ h => h) (Or.inl ⟨by rfl, ?hyy23x2⟩) (by assumption) ?resty23x2
    case hyy23x2 => (intro wz hSw; (try dsimp only at hSw); go_simp <;> try with_reducible rfl)
    try simp only [aP, lA, lZ, lS]
    refine wT (i := 3) (oi := ⟨some 31, _, _, _, _, _⟩) (v := ?vy24x3) rfl (by kernel_rfl) (by kernel_rfl) (by kernel_rfl) (fun _ _ _ h => h) (Or.inl ⟨by rfl, ?hyy24x3⟩) (by assumption) ?resty24x3
    case hyy24x3 => (intro wz hSw; (try dsimp only at hSw); go_simp <;> try with_reducible rfl)
    try simp only [aP, lA, lZ, lS]
    refine wT (i := 5) (oi := ⟨some 33, _, _, _, _, _⟩) (v := ?vy25x5) rfl (by kernel_rfl) (by kernel_rfl) (by kernel_rfl) (fun _ _ _ h => h) (Or.inl ⟨by rfl, ?hyy25x5⟩) (by assumption) ?resty25x5
    case hyy25x5 => (intro wz hSw; (try dsimp only at hSw); go_simp <;> try with_reducible rfl)
    try simp only [aP, lA, lZ, lS]
    refine wpAnyH_ready (rs := [4, 6]) (by kernel_rfl) (by simp) (AllReadyH.cons (o := ⟨some 32, _, _, _, _, _⟩) rfl (fun K hK => ?wayA2) (AllReadyH.cons (o := ⟨some 34, _, _, _, _, _⟩) rfl (fun K hK => ?wayB2) AllReadyH.nil))
    case wayA2 =>
      go_simp
      refine hK.out _ _ ⟨m0, m1, m2, m3⟩ (fun hHeld => ?_)
      clear hK K
      try simp only [aP, lA, lZ, lS]
      refine wpAnyH_ready (rs := [6]) (by kernel_rfl) (by simp) (AllReadyH.cons (o := ⟨some 34, _, _, _, _, _⟩) rfl (fun K hK => ?_) AllReadyH.nil)
      go_simp
      refine hK.out _ _ (q3.out) (fun hHeld => ?_)
      clear hK K
      try simp only [aP, lA, lZ, lS]
      refine wpAnyH_ready (rs := [7]) (by kernel_rfl) (by simp) (AllReadyH.cons (o := ⟨some 35, _, _, _, _, _⟩) rfl (fun K hK => ?_) AllReadyH.nil)
      refine step_appendA_jo (by decide) rfl (.tmp 32) (.tmp 34) 52 rfl 0 33 i0 _ Tryz.underlying52 hi0 hz0 hz1 (by rfl) _ rs.length (flatF MX.cells rs) rfl (JD2.out.ra.row.alloc _) ⟨w2.heap.size, 0, none⟩ 1 1 [.int .u16 xs, .bool xu, .int .u32 xp, .slice x1 x2 x3] rfl rfl (laid4_jo w2.drew _ _ _ _ _) (MX.one ⟨xs, xu, xp, (x1, x2, x3), xb⟩) (by have := HNb.out; unfold maxLen; omega) (by rw [hz2]; have := HNb.out; omega) (Nat.zero_le _) ?_
      intro A' c' w3 ho3 hg3 hl3
      obtain ⟨d2, f2, JJ3, P3⟩ := JD2.out.app (x := ⟨xs, xu, xp, (x1, x2, x3), xb⟩) HXd.out ho3 hg3 (hl3.elim .inl (fun e => .inr ⟨_, e, Nat.le_of_lt (by simp)⟩))
      replace JJ3 := keep JJ3
      replace P3 := keep P3
      have M3 := (show MB w3 w.heap.size ⟨xs, xu, xp, (x1, x2, x3), xb⟩ from (hg3.block w.heap.size (by simp; exact Nat.lt_succ_of_lt hlt2) (fun e => Nat.lt_irrefl _ (HVO.out _ e.symm))).trans (((below_lay w2.drew _).block w.heap.size hlt2).trans M2.out))
      obtain ⟨⟨n0, n1, n2, n3⟩, _⟩ := M3.all
      dsimp only at n0 n1 n2 n3
      have q4 := keep (show MB (w3.setCell ⟨b, 2, none⟩ (.slice A' (rs.length + 1) c')) w.heap.size ⟨xs, xu, xp, (x1, x2, x3), xb⟩ from (heap_setCell_other w3 ⟨b, 2, none⟩ w.heap.size _ hnb').trans M3)
      have HL3 := keep (show ∀ i, (Value.slice A' (rs.length + 1) c').ownBlock = some i → O i ∨ w.heap.size ≤ i from fun i hi => hl3.elim (fun e => .inl (J2.out.ra.own i (e.symm.trans hi))) (fun e => .inr (by rw [e] at hi; injection hi with hi; rw [← hi]; exact Nat.le_trans (Nat.le_of_lt hlt2) (below_lay w2 _).size)))
      clear ho3 hg3 hl3 M3
      refine hK.out _ _ ⟨n0, n1, n2, n3⟩ (fun hHeld => ?_)
      clear hK K
      try simp only [aP, lA, lZ, lS]
      refine wT (i := 8) (oi := ⟨some 36, _, _, _, _, _⟩) (v := ?vy2A6x8) rfl (by kernel_rfl) (by kernel_rfl) (by kernel_rfl) (fun _ _ _ h => h) (Or.inl ⟨by rfl, ?hyy2A6x8⟩) (by assumption) ?resty2A6x8
      case hyy2A6x8 => (intro wz hSw; (try dsimp only at hSw); go_simp <;> try with_reducible rfl)
      try simp only [aP, lA, lZ, lS]
      refine wT (i := 9) (oi := ⟨some 37, _, _, _, _, _⟩) (v := ?vy2A7x9) rfl (by kernel_rfl) (by kernel_rfl) (by kernel_rfl) (fun _ _ _ h => h) (Or.inl ⟨by rfl, ?hyy2A7x9⟩) (by assumption) ?resty2A7x9
      case hyy2A7x9 => (intro wz hSw; (try dsimp only at hSw); go_simp <;> try with_reducible rfl)
      try simp only [aP, lA, lZ, lS]
      refine wpAnyH_ready (rs := [10]) (by kernel_rfl) (by simp) (AllReadyH.cons (o := ⟨none, _, _, _, _, _⟩) rfl (fun K hK => ?_) AllReadyH.nil)
      go_simp
      (try go_wp2_with fail)
      refine hK.out _ _ (q4.out.all.1) (fun hHeld => ?_)
      clear hK K
      try simp only [aP, lA, lZ, lS]
      refine wpAnyH_done (by kernel_rfl) ?_ _
      go_wp2
      go_ret
      have e : relJ j s m = { j with st := delS j.st s nx, rd := j.rd ++ [(⟨xs, xu, xp, (x1, x2, x3), xb⟩ : MX).msg] } := by
        unfold relJ
        rw [HNX.out, HXM.out]
      rw [e]
      refine ⟨rfl, Exists.intro _ (And.intro JJ3.out (And.intro ⟨rfl, rfl, rfl, rfl, rfl, ?_, ?_, fun i hi => .inl hi⟩ rfl))⟩
      · exact P2.out.drew.trans P3.out fun i hi => .inl (by
          rcases hi with rfl | hi
          · exact J2.out.ob
          · exact J2.out.ra.own i hi)
      · exact fun i hi => hi.elim .inl (HL3.out i)
    case wayB2 =>
      go_simp
      refine hK.out _ _ (q3.out) (fun hHeld => ?_)
      clear hK K
      try simp only [aP, lA, lZ, lS]
      refine wpAnyH_ready (rs := [4]) (by kernel_rfl) (by simp) (AllReadyH.cons (o := ⟨some 32, _, _, _, _, _⟩) rfl (fun K hK => ?_) AllReadyH.nil)
      go_simp
      refine hK.out _ _ (q3.out) (fun hHeld => ?_)
      clear hK K
      try simp only [aP, lA, lZ, lS]
      refine wpAnyH_ready (rs := [7]) (by kernel_rfl) (by simp) (AllReadyH.cons (o := ⟨some 35, _, _, _, _, _⟩) rfl (fun K hK => ?_) AllReadyH.nil)
      refine step_appendA_jo (by decide) rfl (.tmp 32) (.tmp 34) 52 rfl 0 33 i0 _ Tryz.underlying52 hi0 hz0 hz1 (by rfl) _ rs.length (flatF MX.cells rs) rfl (JD2.out.ra.row.alloc _) ⟨w2.heap.size, 0, none⟩ 1 1 [.int .u16 xs, .bool xu, .int .u32 xp, .slice x1 x2 x3] rfl rfl (laid4_jo w2.drew _ _ _ _ _) (MX.one ⟨xs, xu, xp, (x1, x2, x3), xb⟩) (by have := HNb.out; unfold maxLen; omega) (by rw [hz2]; have := HNb.out; omega) (Nat.zero_le _) ?_
      intro A' c' w3 ho3 hg3 hl3
      obtain ⟨d2, f2, JJ3, P3⟩ := JD2.out.app (x := ⟨xs, xu, xp, (x1, x2, x3), xb⟩) HXd.out ho3 hg3 (hl3.elim .inl (fun e => .inr ⟨_, e, Nat.le_of_lt (by simp)⟩))
      replace JJ3 := keep JJ3
      replace P3 := keep P3
      have M3 := (show MB w3 w.heap.size ⟨xs, xu, xp, (x1, x2, x3), xb⟩ from (hg3.block w.heap.size (by simp; exact Nat.lt_succ_of_lt hlt2) (fun e => Nat.lt_irrefl _ (HVO.out _ e.symm))).trans (((below_lay w2.drew _).block w.heap.size hlt2).trans M2.out))
      obtain ⟨⟨n0, n1, n2, n3⟩, _⟩ := M3.all
      dsimp only at n0 n1 n2 n3
      have q4 := keep (show MB (w3.setCell ⟨b, 2, none⟩ (.slice A' (rs.length + 1) c')) w.heap.size ⟨xs, xu, xp, (x1, x2, x3), xb⟩ from (heap_setCell_other w3 ⟨b, 2, none⟩ w.heap.size _ hnb').trans M3)
      have HL3 := keep (show ∀ i, (Value.slice A' (rs.length + 1) c').ownBlock = some i → O i ∨ w.heap.size ≤ i from fun i hi => hl3.elim (fun e => .inl (J2.out.ra.own i (e.symm.trans hi))) (fun e => .inr (by rw [e] at hi; injection hi with hi; rw [← hi]; exact Nat.le_trans (Nat.le_of_lt hlt2) (below_lay w2 _).size)))
      clear ho3 hg3 hl3 M3
      refine hK.out _ _ ⟨n0, n1, n2, n3⟩ (fun hHeld => ?_)
      clear hK K
      try simp only [aP, lA, lZ, lS]
      refine wT (i := 8) (oi := ⟨some 36, _, _, _, _, _⟩) (v := ?vy2B8x8) rfl (by kernel_rfl) (by kernel_rfl) (by kernel_rfl) (fun _ _ _ h => h) (Or.inl ⟨by rfl, ?hyy2B8x8⟩) (by assumption) ?resty2B8x8
      case hyy2B8x8 => (intro wz hSw; (try dsimp only at hSw); go_simp <;> try with_reducible rfl)
      try simp only [aP, lA, lZ, lS]
      refine wT (i := 9) (oi := ⟨some 37, _, _, _, _, _⟩) (v := ?vy2B9x9) rfl (by kernel_rfl) (by kernel_rfl) (by kernel_rfl) (fun _ _ _ h => h) (Or.inl ⟨by rfl, ?hyy2B9x9⟩) (by assumption) ?resty2B9x9
      case hyy2B9x9 => (intro wz hSw; (try dsimp only at hSw); go_simp <;> try with_reducible rfl)
      try simp only [aP, lA, lZ, lS]
      refine wpAnyH_ready (rs := [10]) (by kernel_rfl) (by simp) (AllReadyH.cons (o := ⟨none, _, _, _, _, _⟩) rfl (fun K hK => ?_) AllReadyH.nil)
      go_simp
      (try go_wp2_with fail)
      refine hK.out _ _ (q4.out.all.1) (fun hHeld => ?_)
      clear hK K
      try simp only [aP, lA, lZ, lS]
      refine wpAnyH_done (by kernel_rfl) ?_ _
      go_wp2
      go_ret
      have e : relJ j s m = { j with st := delS j.st s nx, rd := j.rd ++ [(⟨xs, xu, xp, (x1, x2, x3), xb⟩ : MX).msg] } := by
        unfold relJ
        rw [HNX.out, HXM.out]
      rw [e]
      refine ⟨rfl, Exists.intro _ (And.intro JJ3.out (And.intro ⟨rfl, rfl, rfl, rfl, rfl, ?_, ?_, fun i hi => .inl hi⟩ rfl))⟩
      · exact P2.out.drew.trans P3.out fun i hi => .inl (by
          rcases hi with rfl | hi
          · exact J2.out.ob
          · exact J2.out.ra.own i hi)
      · exact fun i hi => hi.elim .inl (HL3.out i)
end
section
open Go.RowKit Go.Maps
def mapLen (w : World) (k : Nat) : Nat := match w.heap[k]? with
  | some (.map es _) => es.size
  | _ => 0
theorem MapV.len_is {kt : TypeId} {q : IntKind} {w : World} {k c : Nat} {g : VM} (h : MapV w kt q k c g) : mapLen w k = c := by
  obtain ⟨D, ⟨es, cl, hb, F, hs, hD⟩, _, hc⟩ := h
  unfold mapLen
  rw [hb]
  show es.size = c
  rw [← hc, hD]
  simp [Maps.size, length_sorted]
theorem Good.rel {j : Jn} (h : Good j) {s : Int} {m : Msg} (hm : hasS j.st s (j.nx s) = some m) : Good (popJ j s m) := ⟨h.wf.pop s m, h.ne.pop hm, by rw [pop_oct h.wf hm]; exact h.le⟩
set_option maxHeartbeats 4000000 in
theorem tell_any {w : World} {G : Gh} {j : Jn} {o : Int} (h : JA w G j o) (hw : Good j) {s : Nat} (hs : s < G.n) :
    Calls Tryz.prog 130 #[.pointer (some ⟨G.b, 0, none⟩), .pointer (some ⟨G.sb, s * 2, none⟩)] w fun e w' => e = .returned (.tuple #[]) ∧ ∃ G', JA w' G' (tell j s) o ∧ Later w G w' G' ∧ G'.far = G.far := by
  have H := keep h
  have HG := keep hw
  have HS := keep hs
  clear h hw hs
  obtain ⟨b, k, sb, n, v, pb, pc, far, wm, gs, rs, O, F⟩ := G
  dsimp only at *
  go_enter Tryz.func130, Tryz.ntmps130
  go_wp2
  go_loopw [] (fun wr => ∃ (j1 : Jn) (G1 : Gh), Hid (JA wr G1 j1 o ∧ Later w ⟨b, k, sb, n, v, pb, pc, far, wm, gs, rs, O, F⟩ wr G1 ∧ Good j1 ∧ tell j1 s = tell j s ∧ G1.far = far)) (fun wr => mapLen wr (wm s))
  case atStart => exact ⟨j, _, keep ⟨H.out, Later.refl _ _, HG.out, rfl, rfl⟩⟩
  case round =>
    obtain ⟨j1, G1, HR⟩ := hrel
    have eb : G1.b = b := HR.out.2.1.b
    have es : G1.sb = sb := HR.out.2.1.sb
    have hs1 : s < G1.n := by rw [show G1.n = n from HR.out.2.1.n]; exact HS.out
    cases hm : hasS j1.st s (j1.nx s) with
    | none =>
      have K := release_none HR.out.1 HR.out.2.2.1.wf hs1 hm
      rw [eb, es] at K
      replace K := keep K
      have HT := keep (show tell j1 s = j1 from tell_none hm)
      clear hm hs1 eb es
      go_wp2_with (go_at_call 129; refine K.out.mono ?_; rintro e w2 ⟨rfl, hb2⟩; replace hb2 := keep hb2)
      refine bodyPost_end (results_none rfl _ _ _) rfl ⟨rfl, G1, ?_, HR.out.2.1.trans (Later.below hb2.out), HR.out.2.2.2.2⟩
      rw [← HR.out.2.2.2.1, HT.out]
      exact HR.out.1.step hb2.out
    | some m =>
      have K := release_some HR.out.1 HR.out.2.2.1 hs1 hm
      rw [eb, es] at K
      replace K := keep K
      have HM := keep hm
      have HS1 := keep hs1
      clear hm hs1 eb es
      go_wp2_with (go_at_call 129; refine K.out.mono ?_; rintro e w2 ⟨rfl, G2, hj2, hl2, hf2⟩
                   have eb2 : G2.b = b := hl2.b.trans HR.out.2.1.b
                   have es2 : G2.sb = sb := hl2.sb.trans HR.out.2.1.sb
                   have hs2 : s < G2.n := by rw [hl2.n]; exact HS1.out
                   have s1 := hj2.s1 hs2
                   have sf := hj2.sfz (s * 2 + 1)
                   have J3 := hj2.setNx hs2 (IntKind.u16.wrap (j1.nx s + 1))
                   rw [es2] at s1 sf J3
                   replace J3 := keep J3
                   replace hj2 := keep hj2
                   replace hl2 := keep hl2
                   replace hf2 := keep hf2
                   have eo := keep (show G2.O sb from by rw [← es2]; exact hj2.out.sa.osb)
                   clear es2 eb2 hs2
                   dsimp only [relJ] at s1)
      have hw3 := HR.out.2.2.1.rel HM.out
      have e3 : ({ (relJ j1 s m) with nx := setN (relJ j1 s m).nx s (IntKind.u16.wrap (j1.nx s + 1)) } : Jn) = popJ j1 s m := by
        unfold relJ popJ up1
        rw [wrap_u16]
      have J4 := J3.out.1
      rw [e3] at J4
      refine ⟨⟨popJ j1 s m, G2, keep ⟨J4, ?_, hw3, ?_, hf2.out.trans HR.out.2.2.2.2⟩⟩, ?_⟩
      · exact (HR.out.2.1.trans hl2.out).trans ⟨rfl, rfl, rfl, rfl, rfl, J3.out.2.mono fun i hi => by rw [hi]; exact eo.out, fun i hi => .inl hi, fun i hi => .inl hi⟩
      · rw [← tell_some HR.out.2.2.1.wf HM.out]
        exact HR.out.2.2.2.1
      · have h1 := (HR.out.1.sa.maps s HS1.out).len_is
        have h2 := (J4.sa.maps s (by rw [hl2.out.n]; exact HS1.out)).len_is
        rw [hl2.out.wm] at h2
        rw [show G1.wm = wm from HR.out.2.1.wm] at h1 h2
        rw [h1, h2]
        show stc (delS j1.st s (j1.nx s)) s < _
        have h3 := stc_del HR.out.2.2.1.wf.ks (s : Int) (j1.nx s) s
        have h4 := (HR.out.1.sa.maps s HS1.out).some_pos (n := j1.nx s) (v := ((G1.gs s (j1.nx s)).map fun x => Value.agg x.cells.toArray).getD undef) (by
          have := HR.out.1.sa.msg s HS1.out (j1.nx s)
          rw [HM.out] at this
          rw [wgV_at]
          cases hg : G1.gs s (j1.nx s) with
          | none => rw [hg] at this; cases this
          | some x => rfl)
        rw [HM.out] at h3
        simp only [Option.isSome_some, and_self, if_true] at h3
        omega
end
section
open Go.RowKit Go.Maps
theorem less16_lt (a b : Int) : less16 a b = lt16 a b := by
  unfold less16 lessI dist lt16
  exact decide_eq_decide.2 (by omega)
end
section
open Go.RowKit Go.Maps
theorem rel_wait {w : World} {G : Gh} {j : Jn} {o : Int} (h : JA w G j o) {s : Nat} (hs : s < G.n) {k : Int} (hk0 : 0 ≤ k) (hk1 : k < 65536) (W : World) (h1 : W.heap[G.sb]? = w.heap[G.sb]?) (h2 : W.heap[G.wm s]? = w.heap[G.wm s]?) :
    W.cell? ⟨G.sb, s * 2, none⟩ = some (.map (some (G.wm s))) ∧ W.cell? ⟨G.sb, s * 2 + 1, none⟩ = some (.int .u16 (j.nx s)) ∧
      (Instr.lookup 149 (.map (some (G.wm s))) (.int .u16 k) true).run Tryz.prog W = .ok (.tuple #[(wgV (G.gs s) k).getD (.agg MX.zero.cells.toArray), .bool (wgV (G.gs s) k).isSome]) W :=
  ⟨(World.cell?_of_block (a := ⟨G.sb, s * 2, none⟩) h1).trans (h.s0 hs), (World.cell?_of_block (a := ⟨G.sb, s * 2 + 1, none⟩) h1).trans (h.s1 hs), ((h.sa.maps s hs).same h2).look_ok Tryz.underlying30 Tryz.underlying149 (zero_msg _) (wf16 hk0 hk1)⟩
theorem wgV_is {w : World} {G : Gh} {j : Jn} {o : Int} (h : JA w G j o) {s : Nat} (hs : s < G.n) (k : Int) : ∃ y : MX, (wgV (G.gs s) k).getD (.agg MX.zero.cells.toArray) = .agg y.cells.toArray ∧ (wgV (G.gs s) k).isSome = (hasS j.st s k).isSome := by
  have := h.sa.msg s hs k
  rw [← this]
  rw [wgV_at]
  cases hg : G.gs s k with
  | none => exact ⟨MX.zero, rfl, rfl⟩
  | some y => exact ⟨y, rfl, rfl⟩
set_option maxRecDepth 1000000 in
set_option maxHeartbeats 4000000 in
theorem place_drop {w : World} {G : Gh} {j : Jn} {o : Int} (h : JA w G j o) (hn64 : G.n ≤ 64) {x : MX} (hx : MV w x) {s : Nat} (hs : s < G.n) (hst : x.st = s) (hu : x.un = false) {k : Int} (hk0 : 0 ≤ k) (hk1 : k < 65536) (hd : lt16 k (j.nx s) = true ∨ (hasS j.st s k).isSome = true) (ho : x.bs.length ≤ o ∧ o < 1000000) :
    Calls Tryz.prog 117 #[.pointer (some ⟨G.b, 0, none⟩), .agg x.cells.toArray, .int .u16 k] w fun e w' => e = .returned (.tuple #[]) ∧ JA w' G j (o - x.bs.length) ∧ Later w G w' G := by
  have L0 := below_lay w (.cells x.cells.toArray 33)
  have J0 := h.step L0
  have M0 := (show MB (w.alloc (.cells x.cells.toArray 33)) w.heap.size x from heap_alloc_new w _)
  obtain ⟨y, hy1, hy2⟩ := wgV_is h hs k
  have HR := rel_wait J0 hs hk0 hk1
  rw [hy1, hy2] at HR
  have KF := keep (find_ok J0 hn64 hs)
  have KL := Less16_any k (j.nx s)
  rw [less16_lt] at KL
  replace KL := keep KL
  have hlen := hx.bs.len
  obtain ⟨⟨m0, m1, m2, m3⟩, _⟩ := M0.all
  have hlt := h.olt _ h.sa.osb
  have hltm := h.olt _ (h.sa.ow s hs)
  have hltb := h.olt _ h.ob
  obtain ⟨s0, s1, s2⟩ := HR _ rfl rfl
  have c3 := J0.c3
  have fz := J0.fz 3
  replace HR := keep HR
  have HJ := keep (And.intro J0 L0)
  clear h J0 hx L0 hn64 hy1 hy2
  obtain ⟨b, kk, sb, n, v, pb, pc, far, wm, gs, rs, O, F⟩ := G
  obtain ⟨xs, xu, xp, ⟨x1, x2, x3⟩, xb⟩ := x
  obtain ⟨ys, yu, yp, ⟨y1, y2, y3⟩, yb⟩ := y
  dsimp only [MX.cells] at *
  subst hu hst
  generalize j.nx s = nx at *
  generalize wm s = wms at *
  generalize hasS j.st s k = hh at *
  have hwo : IntKind.i64.wrap (o - (x2 : Int)) = o - (x2 : Int) := wrap_small (by omega) (by omega)
  have HLN := keep hlen
  clear hlen ho
  obtain ⟨lk, hlk⟩ : ∃ q, lt16 k nx = q := ⟨_, rfl⟩
  obtain ⟨ag, hag⟩ : ∃ q, hh.isSome = q := ⟨_, rfl⟩
  rw [hlk] at KL hd
  rw [hag] at s2 hd
  have hag : ag = true ∨ (ag = false ∧ lk = true) := by
    cases ag
    · rcases hd with hd | hd
      · exact .inr ⟨rfl, hd⟩
      · cases hd
    · exact .inl rfl
  clear hd hlk
  rcases hag with rfl | ⟨rfl, rfl⟩
  all_goals
    go_enter Tryz.func117, Tryz.ntmps117
    go_wp2_with (first
      | (go_at_call 99; refine KF.out.mono ?_; rintro e w' ⟨rfl, rfl⟩)
      | (go_at_call 128; refine (KL.out _).mono ?_; rintro e w' ⟨rfl, rfl⟩))
    have L8 := up HJ.out.2 (below_lay _ (.cells #[.int .u16 ys, .bool yu, .int .u32 yp, .slice y1 y2 y3] 33))
    have M8 := (show MB ((w.alloc (.cells #[.int .u16 s, .bool false, .int .u32 xp, .slice x1 x2 x3] 33)).alloc (.cells #[.int .u16 ys, .bool yu, .int .u32 yp, .slice y1 y2 y3] 33)) w.heap.size ⟨s, false, xp, (x1, x2, x3), xb⟩ from ((below_lay _ _).block _ (by simp)).trans M0)
    have J8 := keep (And.intro (HJ.out.1.step (below_lay _ (.cells #[.int .u16 ys, .bool yu, .int .u32 yp, .slice y1 y2 y3] 33))) (And.intro M8 L8))
    clear L8 M8 M0 m0 m1 m2 m3 s0 s1 s2 c3 fz HR
    generalize World.alloc (World.alloc _ _) _ = W8 at J8 ⊢
    have c3 := J8.out.1.c3
    have fz := J8.out.1.fz 3
    have m3 := J8.out.2.1.all.1.2.2.2
    dsimp only at c3 fz m3
    refine wp_region_still_tail 10 (by kernel_rfl) (by kernel_rfl) ?_
    simp only [List.take_succ_cons, List.take_zero, List.drop_succ_cons, List.drop_zero]
    repeat still_step
    refine wpStill_nil ?_
    go_wp2
    have J9 := (J8.out.1.step (Below.refl _ _).drew).setO (o - (x2 : Int))
    rw [← HLN.out]
    refine bodyPost_end (results_none rfl _ _ _) rfl ⟨rfl, J9.1, ⟨rfl, rfl, rfl, rfl, rfl, ?_, fun i hi => .inl hi, fun i hi => .inl hi⟩⟩
    exact (Part.of_below O J8.out.2.2.drew).trans J9.2 fun i hi => .inl (by rw [hi]; exact HJ.out.1.ob)
end
end Go.Proofs.YtnlkdlnmffibhaaGreat
