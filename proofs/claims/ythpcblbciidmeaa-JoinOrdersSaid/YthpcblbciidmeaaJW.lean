/- What is ready is taken. -/
import Derived.Test.YthpcblbciidmeaaJV
namespace Go.Proofs.Ythpcblbciidmeaa
open Go.RowKit Go.Maps
set_option linter.unusedVariables false

/-- The slice at A, of m messages, reads as l. -/
def MSl (w : World) (A : Option Addr) (m c : Nat) (l : List MX) : Prop := m = l.length ∧ m ≤ c ∧ SR w A (flatF MX.cells l)
theorem MX.len4 (x : MX) : x.cells.length = 4 := rfl
theorem MSl.kept {S : Nat → Prop} {w w' : World} {A : Option Addr} {n c : Nat} {l : List MX} (h : MSl w A n c l) (hp : Part S w w') (hA : ∀ a, A = some a → ¬ S a.block) : MSl w' A n c l := ⟨h.1, h.2.1, hp.sr h.2.2 hA⟩
theorem MSl.at_ {w : World} {A : Option Addr} {n c : Nat} {l : List MX} (h : MSl w A n c l) {j : Nat} (hj : j < n) :
    ∃ b o x, A = some ⟨b, o, none⟩ ∧ b < w.heap.size ∧ (w.cell? ⟨b, o + j * 4, none⟩ = some (.int .u16 x.st) ∧ w.cell? ⟨b, o + j * 4 + 1, none⟩ = some (.bool x.un) ∧ w.cell? ⟨b, o + j * 4 + 2, none⟩ = some (.int .u32 x.pp) ∧ w.cell? ⟨b, o + j * 4 + 3, none⟩ = some (.slice x.da.1 x.da.2.1 x.da.2.2)) ∧ l[j]? = some x := by
  obtain ⟨h1, _, h3⟩ := h
  have hl : j < l.length := by omega
  have hg := flatF_get (f := MX.cells) MX.len4 l j l[j] (List.getElem?_eq_getElem hl)
  obtain ⟨b, o, e, hlt, hc⟩ := h3 (by intro h0; have := flatF_len (f := MX.cells) MX.len4 l; rw [h0] at this; simp at this; omega)
  have key : ∀ i v, i < 4 → (l[j]).cells[i]? = some v → w.cell? ⟨b, o + j * 4 + i, none⟩ = some v := fun i v hi hv => by
    rw [Nat.add_assoc]
    exact hc _ _ ((hg i hi).trans hv)
  exact ⟨b, o, l[j], e, hlt, ⟨key 0 _ (by decide) rfl, key 1 _ (by decide) rfl, key 2 _ (by decide) rfl, key 3 _ (by decide) rfl⟩, List.getElem?_eq_getElem hl⟩
/-- Nothing is ready any more; what was is nobody's. -/
theorem JA.takeV {w : World} {G : Gh} {j : Jn} {o : Int} (h : JA w G j o) :
    JA (w.setCell ⟨G.b, 2, none⟩ (.slice none 0 0)) { G with v := .slice none 0 0, rs := [], O := fun i => G.O i ∧ ¬ G.v.ownBlock = some i } { j with rd := [] } o ∧ Part (fun i => i = G.b) w (w.setCell ⟨G.b, 2, none⟩ (.slice none 0 0)) := by
  have hp := part_set w G.b 2 (.slice none 0 0)
  have hb := h.only_b
  have hF := h.notF h.ob
  obtain ⟨cs, hc⟩ := h.sb_cells
  have hsa := h.sa.kept hp hF (fun e => hb.sb e.symm) (fun i hi => hb.wm i hi)
  have hpa := h.pa.kept hp hF (fun e => hb.k e.symm) (fun n p e => hb.p n p e)
  refine ⟨⟨heap_setCell_same w G.b 2 _ _ _ h.blk, ⟨h.ob, fun e => hb.v _ e rfl⟩, h.n, ⟨hpa.map, ⟨h.pa.ok, fun e => ?_⟩, fun n p e => ?_, hpa.has, hpa.inj⟩, ⟨hsa.row, hsa.maps, ⟨h.sa.osb, fun e => ?_⟩, fun i hi => ⟨h.sa.ow i hi, fun e => ?_⟩, hsa.inj, hsa.msg, hsa.vs⟩, ⟨World.ownsRow_nil _ _ _ _, fun g e => (by cases e), rfl, fun x hx => (by cases hx)⟩, h.km, fun i hi => h.dis i hi.1, fun i hi => Nat.lt_of_lt_of_le (h.olt i hi.1) hp.size, fun i hi => Nat.lt_of_lt_of_le (h.flt i hi) hp.size⟩, hp⟩
  · obtain ⟨ds, fr, hd⟩ := h.v_cells e
    exact map_cells h.pa.map.block hd rfl
  · obtain ⟨a, bcd⟩ := hpa.op n p e
    refine ⟨⟨a, fun e' => ?_⟩, bcd⟩
    obtain ⟨ds, fr, hd⟩ := h.v_cells e'
    obtain ⟨ds', hd'⟩ := h.p_cells e
    exact cells_cells hd hd' (by decide) rfl
  · obtain ⟨ds, fr, hd⟩ := h.v_cells e
    exact cells_cells hd hc (by decide) rfl
  · obtain ⟨ds, fr, hd⟩ := h.v_cells e
    exact map_cells (h.sa.maps i hi).block hd rfl
theorem JA.vrow {w : World} {G : Gh} {j : Jn} {o : Int} (h : JA w G j o) : ∃ A c, G.v = .slice A G.rs.length c ∧ MSl w A G.rs.length c G.rs ∧ ∀ a, A = some a → G.v.ownBlock = some a.block := by
  obtain ⟨A, c, hv, hle, hs⟩ := own_shape2' h.ra.row
  refine ⟨A, c, hv, ⟨rfl, hle, hs⟩, fun a e => ?_⟩
  rw [hv, e]
  rfl
def TakeP (w : World) (G : Gh) (j : Jn) (e : Ending) (w' : World) : Prop :=
  ∃ A m c l G', e = .returned (.slice A m c) ∧ MSl w' A m c l ∧ (∀ x ∈ l, MV w' x ∧ InF G'.F x.da.1) ∧ l.map MX.msg = j.rd ∧ (∀ a, A = some a → ¬ G'.O a.block ∧ a.block < w'.heap.size) ∧ JG w' G' (takeJ j) ∧ Later w G w' G'
theorem octM_take {l : List Msg} {t : Nat} {m : Msg} (h : l[t]? = some m) : octM (l.take (t + 1)) = octM (l.take t) + m.da.length := by
  rw [List.take_add_one, h]
  exact octM_app _ _
theorem octM_le (l : List Msg) (t : Nat) : octM (l.take t) ≤ octM l := by
  have h : octM (l.take t) + octM (l.drop t) = octM l := by
    unfold octM
    rw [← List.sum_append, ← List.map_append, List.take_append_drop]
  omega
set_option maxRecDepth 1000000 in
set_option maxHeartbeats 4000000 in
theorem Take_any {w : World} {G : Gh} {j : Jn} (h : JG w G j) :
    Calls Try.prog 13 #[.pointer (some ⟨G.b, 0, none⟩)] w (TakeP w G j) := by
  obtain ⟨A, c, hv, hms, hown⟩ := h.ja.vrow
  have hfew : G.rs.length ≤ 65536 := by
    have h1 := h.good.rd
    have h2 := congrArg List.length h.ja.ra.is
    rw [List.length_map] at h2
    omega
  have HT := keep h.ja.takeV
  have HH := keep h
  have HMS := keep hms
  have HOW := keep hown
  have HVS := keep h.ja.ra.vs
  have c2 := h.ja.c2
  have fz := h.ja.fz 2
  have HB := keep h.ja.only_b.v
  clear h hms hown
  obtain ⟨b, k, sb, N, v, pb, pc, far, wm, gs, rs, O, F⟩ := G
  dsimp only at *
  subst hv
  obtain ⟨m, hm⟩ : ∃ q, rs.length = q := ⟨_, rfl⟩
  have HM := keep hm
  rw [hm] at c2 hfew
  clear hm
  go_enter Try.func13, Try.ntmps13
  go_wp2
  go_loopw [17] (fun iv wr => ∃ (t : Nat), iv = .int .i64 (t : Int) ∧ t ≤ m ∧ Hid (JA wr { b := b, k := k, sb := sb, n := N, v := .slice none 0 0, pb := pb, pc := pc, far := far, wm := wm, gs := gs, rs := [], O := fun i => O i ∧ ¬ (Value.slice A rs.length c).ownBlock = some i, F := F } { j with rd := [] } ((j.oct : Int) - octM (j.rd.take t)) ∧ Part (fun i => i = b) w wr)) (fun iv _ => m - (intOf iv).toNat)
  case atStart => exact ⟨0, rfl, Nat.zero_le _, keep ⟨by
    rw [List.take_zero]
    show JA _ _ _ ((j.oct : Int) - (0 : Nat))
    rw [show (j.oct : Int) - (0 : Nat) = j.oct by omega]
    exact HT.out.1, HT.out.2⟩⟩
  case round =>
    clear c2 fz
    obtain ⟨t, rfl, ht, HR⟩ := hrel
    have hAb : ∀ a, A = some a → ¬ a.block = b := fun a e => HB.out a.block (HOW.out a e)
    by_cases hlt : t < m
    · have hlt' : (t : Int) < (m : Int) := by omega
      have hwt : IntKind.i64.wrap ((t : Int) + 1) = (t : Int) + 1 := wrap_small (by omega) (by omega)
      obtain ⟨g, og, x, eA, hgl, ⟨d0, d1, d2, d3⟩, hx⟩ := (HMS.out.kept HR.out.2 hAb).at_ (show t < rs.length from by have := HM.out; omega)
      have hxv := (HVS.out x (List.mem_of_getElem? hx)).1
      have hjx : j.rd[t]? = some x.msg := by
        rw [← HH.out.ja.ra.is]
        show (rs.map MX.msg)[t]? = _
        rw [List.getElem?_map, hx]
        rfl
      have hoc := octM_take hjx
      have hle := octM_le j.rd (t + 1)
      have hln := hxv.bs.len
      have hln2 : x.msg.da.length = x.bs.length := rfl
      have hto := HH.out.good.le
      have hos : (j.oct : Int) - octM (j.rd.take (t + 1)) = (j.oct : Int) - octM (j.rd.take t) - (x.da.2.1 : Int) := by omega
      have hrng : octM j.rd ≤ j.oct := by unfold Jn.oct; omega
      have hws : IntKind.i64.wrap ((j.oct : Int) - octM (j.rd.take t) - (x.da.2.1 : Int)) = (j.oct : Int) - octM (j.rd.take t) - (x.da.2.1 : Int) := wrap_small (by omega) (by omega)
      have J1 := HR.out.1.step (below_lay wr (.cells x.cells.toArray 44))
      have M1 := (show MB (wr.alloc (.cells x.cells.toArray 44)) wr.heap.size x from heap_alloc_new wr _).all.1
      have P1 := HR.out.2.alloc (.cells x.cells.toArray 44)
      have c3 := J1.c3
      have fz := J1.fz 3
      have HOS := keep hos
      have LT := keep hlt
      subst eA
      clear hxv hjx hoc hle hln hln2 hto hos hrng hx hlt hAb
      obtain ⟨xs, xu, xp, ⟨x1, x2, x3⟩, xb⟩ := x
      obtain ⟨m0, m1, m2, m3⟩ := M1
      have HJ1 := keep (And.intro J1 P1)
      clear J1 P1
      dsimp only [MX.cells] at *
      generalize (j.oct : Int) - octM (j.rd.take t) = oc at *
      go_wp2
      generalize World.alloc _ _ = W8 at HJ1 c3 fz m0 m1 m2 m3 ⊢
      refine wp_region_still_tail 10 (by kernel_rfl) (by kernel_rfl) ?_
      simp only [List.take_succ_cons, List.take_zero, List.drop_succ_cons, List.drop_zero]
      repeat still_step
      refine wpStill_nil ?_
      go_wp2
      go_roundw
      case rel =>
        have J4 := (HJ1.out.1.step (Below.refl _ _).drew).setO (oc - (x2 : Int))
        exact ⟨t + 1, by go_num, LT.out, keep ⟨by rw [HOS.out]; exact J4.1, HJ1.out.2.drew.trans J4.2 fun i hi => .inl hi⟩⟩
      case measure => (have := LT.out; simp [intOf]; omega)
    · obtain rfl : t = m := by omega
      have hlt' : ¬ (t : Int) < (t : Int) := by omega
      clear hlt
      have HAb := keep hAb
      go_wp2
      go_ret
      have hms := HMS.out.kept HR.out.2 HAb.out
      have hrd : j.rd.take t = j.rd := by
        refine List.take_of_length_le ?_
        have h2 := congrArg List.length HH.out.ja.ra.is
        rw [List.length_map] at h2
        have h3 : rs.length = j.rd.length := h2
        have := HM.out
        omega
      have htk := take_wf HH.out.good.wf
      refine ⟨A, t, c, rs, { b := b, k := k, sb := sb, n := N, v := .slice none 0 0, pb := pb, pc := pc, far := far, wm := wm, gs := gs, rs := [], O := fun i => O i ∧ ¬ (Value.slice A rs.length c).ownBlock = some i, F := F }, rfl, by rw [← HM.out]; rw [HM.out] at hms ⊢; exact hms, fun x hx => ?_, HH.out.ja.ra.is, fun a e => ⟨fun hc => hc.2 (HOW.out a e), ?_⟩, ⟨?_, ⟨htk.1, HH.out.good.ne.take, by have := HH.out.good.le; omega⟩, HH.out.ends⟩, ⟨rfl, rfl, rfl, rfl, rfl, HR.out.2.mono fun i hi => by rw [hi]; exact HH.out.ja.ob, fun i hi => .inl hi.1, fun i hi => .inl hi⟩⟩
      · exact MV.kept (HVS.out x hx) HR.out.2 fun i hi e => HH.out.ja.dis b HH.out.ja.ob (by rw [← e]; exact hi)
      · have h1 := HH.out.ja.olt a.block (HH.out.ja.ra.own _ (HOW.out a e))
        exact Nat.lt_of_lt_of_le h1 HR.out.2.size
      · have h9 := HR.out.1
        rw [hrd] at h9
        have e : ((takeJ j).oct : Int) = (j.oct : Int) - octM j.rd := by omega
        rw [e]
        exact h9
end Go.Proofs.Ythpcblbciidmeaa
