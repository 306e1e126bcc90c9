/- A message that is whole is ready, or waits, or is dropped. -/
import Derived.Test.YthpcblbciidmeaaJE
import Derived.Deep.QuietTactic
import Derived.BigQuiet
namespace Go.Proofs.Ythpcblbciidmeaa
open Go.RowKit Go.Maps
set_option linter.unusedVariables false

/-- The stream's map, asked for a number. -/
theorem rel_wait {w : World} {G : Gh} {j : Jn} {o : Int} (h : JA w G j o) {s : Nat} (hs : s < G.n) {k : Int} (hk0 : 0 ≤ k) (hk1 : k < 65536) (W : World) (h1 : W.heap[G.sb]? = w.heap[G.sb]?) (h2 : W.heap[G.wm s]? = w.heap[G.wm s]?) :
    W.cell? ⟨G.sb, s * 2, none⟩ = some (.map (some (G.wm s))) ∧ W.cell? ⟨G.sb, s * 2 + 1, none⟩ = some (.int .u16 (j.nx s)) ∧
      (Instr.lookup 64 (.map (some (G.wm s))) (.int .u16 k) true).run Try.prog W = .ok (.tuple #[(wgV (G.gs s) k).getD (.agg MX.zero.cells.toArray), .bool (wgV (G.gs s) k).isSome]) W :=
  ⟨(World.cell?_of_block (a := ⟨G.sb, s * 2, none⟩) h1).trans (h.s0 hs), (World.cell?_of_block (a := ⟨G.sb, s * 2 + 1, none⟩) h1).trans (h.s1 hs), ((h.sa.maps s hs).same h2).look_ok Try.underlying27 Try.underlying64 (zero_msg _) (wf16 hk0 hk1)⟩
theorem wgV_is {w : World} {G : Gh} {j : Jn} {o : Int} (h : JA w G j o) {s : Nat} (hs : s < G.n) (k : Int) : ∃ y : MX, (wgV (G.gs s) k).getD (.agg MX.zero.cells.toArray) = .agg y.cells.toArray ∧ (wgV (G.gs s) k).isSome = (hasS j.st s k).isSome := by
  have := h.sa.msg s hs k
  rw [← this]
  rw [wgV_at]
  cases hg : G.gs s k with
  | none => exact ⟨MX.zero, rfl, rfl⟩
  | some y => exact ⟨y, rfl, rfl⟩
set_option maxRecDepth 1000000 in
set_option maxHeartbeats 4000000 in
theorem place_drop {w : World} {G : Gh} {j : Jn} {o : Int} (h : JA w G j o) (hn64 : G.n ≤ 64) {x : MX} (hx : MV w x) {s : Nat} (hs : s < G.n) (hst : x.st = s) (hu : x.un = false) {k : Int} (hk0 : 0 ≤ k) (hk1 : k < 65536) (hd : lt16 k (j.nx s) = true ∨ (hasS j.st s k).isSome = true) (ho : x.bs.length ≤ o ∧ o < 1000000) :
    Calls Try.prog 22 #[.pointer (some ⟨G.b, 0, none⟩), .agg x.cells.toArray, .int .u16 k] w fun e w' => e = .returned (.tuple #[]) ∧ JA w' G j (o - x.bs.length) ∧ Later w G w' G := by
  have L0 := below_lay w (.cells x.cells.toArray 44)
  have J0 := h.step L0
  have M0 := (show MB (w.alloc (.cells x.cells.toArray 44)) w.heap.size x from heap_alloc_new w _)
  obtain ⟨y, hy1, hy2⟩ := wgV_is h hs k
  have HR := rel_wait J0 hs hk0 hk1
  rw [hy1, hy2] at HR
  have KF := keep (find_ok J0 hn64 hs)
  have KL := Less16_any k (j.nx s)
  rw [less16_lt] at KL
  replace KL := keep KL
  have hlen := hx.bs.len
  obtain ⟨⟨m0, m1, m2, m3⟩, _⟩ := M0.all
  have hlt := h.olt _ h.sa.osb
  have hltm := h.olt _ (h.sa.ow s hs)
  have hltb := h.olt _ h.ob
  obtain ⟨s0, s1, s2⟩ := HR _ rfl rfl
  have c3 := J0.c3
  have fz := J0.fz 3
  replace HR := keep HR
  have HJ := keep (And.intro J0 L0)
  clear h J0 hx L0 hn64 hy1 hy2
  obtain ⟨b, kk, sb, n, v, pb, pc, far, wm, gs, rs, O, F⟩ := G
  obtain ⟨xs, xu, xp, ⟨x1, x2, x3⟩, xb⟩ := x
  obtain ⟨ys, yu, yp, ⟨y1, y2, y3⟩, yb⟩ := y
  dsimp only [MX.cells] at *
  subst hu hst
  generalize j.nx s = nx at *
  generalize wm s = wms at *
  generalize hasS j.st s k = hh at *
  have hwo : IntKind.i64.wrap (o - (x2 : Int)) = o - (x2 : Int) := wrap_small (by omega) (by omega)
  have HLN := keep hlen
  clear hlen ho
  obtain ⟨lk, hlk⟩ : ∃ q, lt16 k nx = q := ⟨_, rfl⟩
  obtain ⟨ag, hag⟩ : ∃ q, hh.isSome = q := ⟨_, rfl⟩
  rw [hlk] at KL hd
  rw [hag] at s2 hd
  have hag : ag = true ∨ (ag = false ∧ lk = true) := by
    cases ag
    · rcases hd with hd | hd
      · exact .inr ⟨rfl, hd⟩
      · cases hd
    · exact .inl rfl
  clear hd hlk
  rcases hag with rfl | ⟨rfl, rfl⟩
  all_goals
    go_enter Try.func22, Try.ntmps22
    go_wp2_with (first
      | (go_at_call 24; refine KF.out.mono ?_; rintro e w' ⟨rfl, rfl⟩)
      | (go_at_call 31; refine (KL.out _).mono ?_; rintro e w' ⟨rfl, rfl⟩))
    have L8 := up HJ.out.2 (below_lay _ (.cells #[.int .u16 ys, .bool yu, .int .u32 yp, .slice y1 y2 y3] 44))
    have M8 := (show MB ((w.alloc (.cells #[.int .u16 s, .bool false, .int .u32 xp, .slice x1 x2 x3] 44)).alloc (.cells #[.int .u16 ys, .bool yu, .int .u32 yp, .slice y1 y2 y3] 44)) w.heap.size ⟨s, false, xp, (x1, x2, x3), xb⟩ from ((below_lay _ _).block _ (by simp)).trans M0)
    have J8 := keep (And.intro (HJ.out.1.step (below_lay _ (.cells #[.int .u16 ys, .bool yu, .int .u32 yp, .slice y1 y2 y3] 44))) (And.intro M8 L8))
    clear L8 M8 M0 m0 m1 m2 m3 s0 s1 s2 c3 fz HR
    generalize World.alloc (World.alloc _ _) _ = W8 at J8 ⊢
    have c3 := J8.out.1.c3
    have fz := J8.out.1.fz 3
    have m3 := J8.out.2.1.all.1.2.2.2
    dsimp only at c3 fz m3
    refine wp_region_still_tail 10 (by kernel_rfl) (by kernel_rfl) ?_
    simp only [List.take_succ_cons, List.take_zero, List.drop_succ_cons, List.drop_zero]
    repeat still_step
    refine wpStill_nil ?_
    go_wp2
    have J9 := (J8.out.1.step (Below.refl _ _).drew).setO (o - (x2 : Int))
    rw [← HLN.out]
    refine bodyPost_end (results_none rfl _ _ _) rfl ⟨rfl, J9.1, ⟨rfl, rfl, rfl, rfl, rfl, ?_, fun i hi => .inl hi, fun i hi => .inl hi⟩⟩
    exact (Part.of_below O J8.out.2.2.drew).trans J9.2 fun i hi => .inl (by rw [hi]; exact HJ.out.1.ob)
end Go.Proofs.Ythpcblbciidmeaa
