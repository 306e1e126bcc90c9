/- KAU of the stage: texts Q15, joined. -/
import Derived.Test.YtffjdknmfmlfnaaKAR
import Derived.Test.YtffjdknmfmlfnaaKAT
import Derived.Deep.RegionLaw
set_option linter.unusedSimpArgs false
set_option linter.unusedVariables false
namespace Go.Proofs.Ytffjdknmfmlfnaa
section
open Go.RowKit Go.Maps

theorem Push_nil (s : SL) (un tr : Int) (w : World) : Calls Try.prog 10 #[.pointer none, .slice s.1 s.2.1 s.2.2, .int .i64 un, .int .i64 tr] w fun e w' => e = .returned (.int .i64 1) ∧ w = w' := by
  go_enter Try.func10, Try.ntmps10
  go_wp2
  go_ret
  exact ⟨rfl, rfl⟩
theorem Push_arg {w : World} {G : Gq} {q : Qm} (h : QA w G q) {s : SL} {l : List CZ} (hl : ZS w s l) (hn : s.2.1 ≤ 1000000) (un tr : Int) (hu : l = [] ∨ l.any unfitB = true) :
    Calls Try.prog 10 #[.pointer (some ⟨G.b, 0, none⟩), .slice s.1 s.2.1 s.2.2, .int .i64 un, .int .i64 tr] w fun e w' => e = .returned (.int .i64 1) ∧ Below w.heap.size w w' := by
  have HK := keep (cContains_any s l w hl hn)
  have hl1 := hl.1.1
  by_cases h0 : l = []
  · subst h0
    have hs : s.2.1 = 0 := hl1
    clear h hl hn hu HK hl1
    obtain ⟨s1, s2, s3⟩ := s
    dsimp only at hs ⊢
    subst hs
    go_enter Try.func10, Try.ntmps10
    go_wp2
    go_ret
    exact ⟨rfl, Below.refl _ _⟩
  · have hany := hu.resolve_left h0
    rw [hany] at HK
    have hs : s.2.1 ≠ 0 := fun e => h0 (List.eq_nil_of_length_eq_zero (by rw [← hl1]; exact e))
    have hs' : ((s.2.1 : Int) == 0) = false := by simp; exact hs
    clear h hl hn hu hl1 h0 hany hs
    obtain ⟨s1, s2, s3⟩ := s
    dsimp only at hs' HK ⊢
    go_enter Try.func10, Try.ntmps10
    go_wp2_with (go_at_call 35; refine HK.out.mono ?_; rintro e w1 ⟨rfl, hb1⟩; replace hb1 := keep hb1)
    go_ret
    exact ⟨rfl, hb1.out⟩
theorem Push_full {w : World} {G : Gq} {q : Qm} (h : QA w G q) {s : SL} {l : List CZ} (hl : ZS w s l) (hn : s.2.1 ≤ 1000000) (un tr : Int) (hu : ¬ (l = [] ∨ l.any unfitB = true)) (hf : 1024 < q.es.length + l.length) :
    Calls Try.prog 10 #[.pointer (some ⟨G.b, 0, none⟩), .slice s.1 s.2.1 s.2.2, .int .i64 un, .int .i64 tr] w fun e w' => e = .returned (.int .i64 9) ∧ Below w.heap.size w w' := by
  have HK := keep (cContains_any s l w hl hn)
  have hl1 := hl.1.1
  have h0 : l ≠ [] := fun e => hu (.inl e)
  have hany : l.any unfitB = false := by simpa using fun e => hu (.inr e)
  rw [hany] at HK
  have hs : s.2.1 ≠ 0 := fun e => h0 (List.eq_nil_of_length_eq_zero (by rw [← hl1]; exact e))
  have hs' : ((s.2.1 : Int) == 0) = false := by simp; exact hs
  have HB := keep (fun W (hb : Below w.heap.size w W) => (h.step hb).b0.1)
  have hle := h.le
  have hfull : (1024 : Int) - (G.s.2.1 : Int) < (s.2.1 : Int) := by rw [h.n]; omega
  have hr : (G.s.2.1 : Int) ≤ 1024 := by rw [h.n]; omega
  clear h hl hn hu hl1 h0 hany hs hf hle
  obtain ⟨s1, s2, s3⟩ := s
  obtain ⟨b, ⟨g1, g2, g3⟩, O, F⟩ := G
  dsimp only at *
  go_enter Try.func10, Try.ntmps10
  go_wp2_with (go_at_call 35; refine HK.out.mono ?_; rintro e w1 ⟨rfl, hb1⟩; have c0 := HB.out w1 hb1; replace hb1 := keep hb1)
  go_ret
  exact ⟨rfl, hb1.out⟩
theorem ZS.kept {ok : Nat → Prop} {A B : World} {s : SL} {l : List CZ} (h : ZS A s l) (k : Kpt ok A B) (hs : InF ok s.1) (ha : ∀ x ∈ l, ∀ p ∈ x.ads, InF ok p) : ZS B s l := ⟨h.1.kept k hs, fun x hx => (h.2 x hx).kept k (ha x hx)⟩
theorem QA.b_grown {w : World} {G : Gq} {q : Qm} (h : QA w G q) {w1 : World} (hg : w.grownBy w1 (Value.slice G.s.1 G.s.2.1 G.s.2.2).ownBlock) : w1.cell? ⟨G.b, 0, none⟩ = some (.slice G.s.1 G.s.2.1 G.s.2.2) ∧ w1.frozen? ⟨G.b, 0, none⟩ = false := by
  have hb := (hg.block _ (h.olt _ h.ob) fun ee => by
    obtain ⟨cur, fr', hcur⟩ := own_cells h.row ee.symm
    exact cells_cells h.blk hcur (by decide) rfl).trans h.blk
  exact ⟨upd_cell hb 0 _ rfl, upd_fz hb 0⟩
theorem ZV.a_ {w : World} {x : CZ} (h : ZV w x) {nx : Int} (hn : 0 ≤ nx ∧ nx < 4294967296) : ZV w { x with a := nx } := ⟨h.kd, h.fl, hn, h.b, h.ou, h.si, h.pp, h.bl, h.du, h.sk, h.pr, h.ps, h.da⟩
theorem Sm.a_ {x : CZ} (h : Sm x) (nx : Int) : Sm { x with a := nx } := ⟨h.bl, h.du, h.sk, h.pr, h.da⟩
/-- Between two rounds. -/
def PuI (w : World) (G : Gq) (q : Qm) (l : List CZ) (un tr : Int) (m j : Nat) (W : World) : Prop :=
  ∃ G' new, QA W G' (pushQ q new m un tr) ∧ Ltr w G W G' ∧ PushN q l m j new ∧ G'.O m ∧ MgAt W m ⟨un, tr, false⟩
/-- One more, but for the next number. -/
theorem push_mid {W : World} {G : Gq} {q : Qm} {m : Nat} (h : QA W G q) (hm : G.O m) {un tr : Int} (hmg : MgAt W m ⟨un, tr, false⟩) (hqm : q.mg m = ⟨un, tr, false⟩) {w3 : World} (hb : Below W.heap.size W w3) {y : CZ} (hz : ZV w3 y) (hs : Sm y) (hi : ∀ p ∈ y.ads, InF (fun k => W.heap.size ≤ k ∧ k < w3.heap.size) p) (hle : q.es.length + 1 ≤ 1024)
    {W4 : World} (hW4 : W4 = (w3.alloc (.cells (En.cells ⟨w3.heap.size, y, m, 0, 0, 0, 0⟩).toArray 78)).alloc (.cells #[.pointer (some ⟨w3.heap.size, 0, none⟩)] 75)) {w5 : World} {A : Option Addr} {c : Nat}
    (ho : w5.ownsRow 0 75 1 (.slice A (G.s.2.1 + 1) c) (G.s.2.1 + 1) (q.es.map En.ptr ++ [.pointer (some ⟨w3.heap.size, 0, none⟩)])) (hg : W4.grownBy w5 (Value.slice G.s.1 G.s.2.1 G.s.2.2).ownBlock)
    (hl : (Value.slice A (G.s.2.1 + 1) c).ownBlock = (Value.slice G.s.1 G.s.2.1 G.s.2.2).ownBlock ∨ (Value.slice A (G.s.2.1 + 1) c).ownBlock = some W4.heap.size) :
    QA (w5.setCell ⟨G.b, 0, none⟩ (.slice A (G.s.2.1 + 1) c)) (appG G (A, G.s.2.1 + 1, c) ⟨w3.heap.size, y, m, 0, 0, 0, 0⟩) { q with es := q.es ++ [⟨w3.heap.size, y, m, 0, 0, 0, 0⟩] } ∧ Ltr W G (w5.setCell ⟨G.b, 0, none⟩ (.slice A (G.s.2.1 + 1) c)) (appG G (A, G.s.2.1 + 1, c) ⟨w3.heap.size, y, m, 0, 0, 0, 0⟩) ∧ MgAt (w5.setCell ⟨G.b, 0, none⟩ (.slice A (G.s.2.1 + 1) c)) m ⟨un, tr, false⟩ := by
  have hb4 : Below W.heap.size W W4 := by
    rw [hW4]
    exact up hb (up (below_lay w3 _) (below_lay _ _))
  have hb34 : Below w3.heap.size w3 W4 := by
    rw [hW4]
    exact up (below_lay w3 _) (below_lay _ _)
  have hs4 : w3.heap.size < W4.heap.size := by rw [hW4]; simp; omega
  have h4 := h.step hb4
  have hmg4 : MgAt W4 m ⟨un, tr, false⟩ := (hb4.block _ (Array.getElem?_eq_some_iff.1 hmg).1).trans hmg
  have ha : ∀ i, adB y i → W.heap.size ≤ i ∧ i < w3.heap.size := fun i ⟨B, hB, a, ea, hi'⟩ => by rw [← hi']; exact hi B hB a ea
  obtain ⟨r1, r2⟩ := h4.app (N := W.heap.size) (fun i hi => by
      rcases hi with hi | hi
      · exact h.olt i hi
      · exact h.flt i hi) (e := ⟨w3.heap.size, y, m, 0, 0, 0, 0⟩) (by rw [hW4]; exact below_new (heap_new_at rfl)) (hz.step hb34) hs (fun i hi => ⟨(ha i hi).1, Nat.lt_trans (ha i hi).2 hs4, Nat.ne_of_lt (ha i hi).2⟩) hb.size hm (by rw [hqm]; exact hmg4) hle ho hg hl
  refine ⟨r1, ⟨rfl, (Part.of_below G.O hb4).trans r2 fun i hi => .inl hi, fun i hi => ?_, fun i hi => ?_⟩, ?_⟩
  · rcases hi with hi | rfl | hi
    · exact .inl hi
    · exact .inr hb.size
    · rcases hl with hl | hl
      · rw [show (Value.slice (A, G.s.2.1 + 1, c).1 (A, G.s.2.1 + 1, c).2.1 (A, G.s.2.1 + 1, c).2.2).ownBlock = _ from hl] at hi
        exact .inl (h.ov i hi)
      · rw [show (Value.slice (A, G.s.2.1 + 1, c).1 (A, G.s.2.1 + 1, c).2.1 (A, G.s.2.1 + 1, c).2.2).ownBlock = _ from hl] at hi
        injection hi with hi
        exact .inr (by rw [← hi]; exact hb4.size)
  · rcases hi with hi | hi
    · exact .inl hi
    · exact .inr (ha i hi).1
  · have := (r1.en ⟨w3.heap.size, y, m, 0, 0, 0, 0⟩ (List.mem_append_right _ (List.mem_singleton.2 rfl))).2.2.1
    rw [show ({ q with es := q.es ++ [⟨w3.heap.size, y, m, 0, 0, 0, 0⟩] } : Qm).mg m = q.mg m from rfl, hqm] at this
    exact this
/-- The next number. -/
theorem push_next {w : World} {G : Gq} {q : Qm} {l : List CZ} {un tr : Int} {m j : Nat} {new : List En} {W : World} {G' G2 : Gq} {W0 : World} {x : CZ} {e : En} (hlr : Ltr w G W0 G') (hpn : PushN q l m j new) (hO : G'.O m)
    (h : QA W G2 { pushQ q new m un tr with es := (q.es ++ new) ++ [e] }) (hl : Ltr W0 G' W G2) (hmg : MgAt W m ⟨un, tr, false⟩) (hO2 : ∀ i, G'.O i → G2.O i) (hx : l[j]? = some x) (hct : e.c.ct = { x.ct with a := (q.nx + (new.length : Int)) % 4294967296 }) (hd : e.c.da.2.1 = x.da.2.1) (he : e.m = m ∧ e.st = 0 ∧ e.sn = 0 ∧ e.la = 0 ∧ e.ms = 0) :
    PuI w G q l un tr m (j + 1) (W.setCell ⟨G2.b, 1, none⟩ (.int .u32 (((q.nx + (new.length : Int)) % 4294967296 + 1) % 4294967296))) := by
  obtain ⟨r1, r2⟩ := h.setN (nx := ((q.nx + (new.length : Int)) % 4294967296 + 1) % 4294967296) (by omega)
  refine ⟨G2, new ++ [e], ?_, hlr.trans (hl.trans ⟨rfl, r2.mono fun i hi => by rw [hi]; exact h.ob, fun i hi => .inl hi, fun i hi => .inl hi⟩), ⟨by rw [List.length_append, hpn.len]; rfl, fun i c e' hc he' => ?_⟩, hO2 _ hO, ?_⟩
  · have e1 : ((q.nx + (new.length : Int)) % 4294967296 + 1) % 4294967296 = (q.nx + ((new ++ [e]).length : Int)) % 4294967296 := by
      rw [List.length_append, List.length_singleton]
      omega
    rw [e1] at r1 ⊢
    unfold pushQ
    rw [← List.append_assoc]
    exact r1
  · rw [List.getElem?_append] at he'
    split at he'
    · exact hpn.all i c e' hc he'
    · rename_i hni
      have hl1 : i < (new ++ [e]).length := by
        have := (List.getElem?_eq_some_iff.1 he').1
        rw [List.length_append, List.length_singleton]
        simp at this
        omega
      have hij : i = j := by
        rw [List.length_append, List.length_singleton] at hl1
        have := hpn.len
        omega
      subst hij
      rw [hpn.len, Nat.sub_self] at he'
      injection he' with he'
      subst he'
      rw [hx] at hc
      injection hc with hc
      subst hc
      refine ⟨?_, hd, he⟩
      rw [hct, hpn.len]
  · exact set_other hmg fun e => cells_cells hmg h.blk (by decide) e
set_option maxRecDepth 100000 in
set_option maxHeartbeats 4000000 in
theorem Push_ok {w : World} {G : Gq} {q : Qm} (h : QA w G q) {s : SL} {l : List CZ} (hl : ZS w s l) (hn : s.2.1 ≤ 1000000) (hsm : ∀ x ∈ l, Sm x) (hap : InF (fun i => ¬ G.O i) s.1 ∧ ∀ x ∈ l, ∀ A ∈ x.ads, InF (fun i => ¬ G.O i) A) (un tr : Int) (hu : ¬ (l = [] ∨ l.any unfitB = true)) (hf : ¬ 1024 < q.es.length + l.length) :
    Calls Try.prog 10 #[.pointer (some ⟨G.b, 0, none⟩), .slice s.1 s.2.1 s.2.2, .int .i64 un, .int .i64 tr] w fun e w' => e = .returned (.int .i64 0) ∧ ∃ m, w.heap.size ≤ m ∧ PuI w G q l un tr m l.length w' := by
  have HK := keep (cContains_any s l w hl hn)
  have hl1 := hl.1.1
  have h0 : l ≠ [] := fun e => hu (.inl e)
  have hany : l.any unfitB = false := by simpa using fun e => hu (.inr e)
  rw [hany] at HK
  have hs : s.2.1 ≠ 0 := fun e => h0 (List.eq_nil_of_length_eq_zero (by rw [← hl1]; exact e))
  have hs' : ((s.2.1 : Int) == 0) = false := by simp; exact hs
  have HB := keep (fun W (hb : Below w.heap.size w W) => (h.step hb).b0.1)
  have hle := h.le
  have hfull : ¬ (1024 : Int) - (G.s.2.1 : Int) < (s.2.1 : Int) := by rw [h.n]; omega
  have hr : (G.s.2.1 : Int) ≤ 1024 := by rw [h.n]; omega
  have HH := keep h
  have HL := keep hl
  have HSM := keep hsm
  have HAP := keep hap
  have HF := keep hf
  have HN := keep hl1
  have hl2 : s.2.1 ≤ 1024 := by omega
  clear h hl hn hu h0 hany hs hf hle hsm hap
  obtain ⟨s1, s2, s3⟩ := s
  dsimp only at hl1
  subst hl1
  have Gb : ∃ b, b = G.b := ⟨_, rfl⟩
  dsimp only at *
  go_enter Try.func10, Try.ntmps10
  go_wp2_with (go_at_call 35; refine HK.out.mono ?_; rintro e w1 ⟨rfl, hb1⟩; have c0 := HB.out w1 hb1; replace hb1 := keep hb1)
  have hm := keep (show w.heap.size ≤ w1.heap.size from hb1.out.size)
  have I0 : PuI w G q l un tr w1.heap.size 0 (w1.alloc (.cells #[.int .i64 un, .int .i64 tr, .bool false] 74)) := by
    have hq1 := HH.out.step (hb1.out.trans ((below_lay w1 (.cells #[.int .i64 un, .int .i64 tr, .bool false] 74)).mono hb1.out.size))
    have hq2 := hq1.msg (m := w1.heap.size) (g := ⟨un, tr, false⟩) (heap_alloc_new w1 _) ⟨fun hO => by have := HH.out.olt _ hO; have := hm.out; omega, fun hF => by have := HH.out.flt _ hF; have := hm.out; omega⟩
    have hnx := HH.out.nx
    refine ⟨{ G with O := fun i => G.O i ∨ i = w1.heap.size }, [], ?_, ⟨rfl, Part.of_below _ (hb1.out.trans ((below_lay w1 _).mono hb1.out.size)), fun i hi => ?_, fun i hi => .inl hi⟩, ⟨rfl, fun i c e _ h => by simp at h⟩, .inr rfl, heap_alloc_new w1 _⟩
    · unfold pushQ
      rw [List.append_nil, List.length_nil, show (q.nx + ((0 : Nat) : Int)) % 4294967296 = q.nx by omega]
      exact hq2
    · rcases hi with hi | rfl
      · exact .inl hi
      · exact .inr hm.out
  replace I0 := keep I0
  go_loopw [11, 40] (fun _ i wr => ∃ j : Nat, j ≤ l.length ∧ i = .int .i64 j ∧ Hid (PuI w G q l un tr w1.heap.size j wr)) (fun _ i _ => l.length - (intOf i).toNat)
  case atStart => exact ⟨0, Nat.zero_le _, rfl, I0⟩
  case round =>
    obtain ⟨j, hj, rfl, HI⟩ := hrel
    clear c0
    by_cases hlt : j < l.length
    · obtain ⟨G', new, hq, hlr, hpn, hGm, hMg⟩ := HI.out
      have hz := HL.out.kept (Kpt.of_part (ok := fun i => ¬ G.O i) hlr.part fun _ h => h) HAP.out.1 HAP.out.2
      obtain ⟨b, o, x, hA, hbl, hz12, hlj, hzv⟩ := hz.at_ hlt
      dsimp only at hA
      subst hA
      have HX := keep hlj
      have HSX := keep ((HSM.out x (List.mem_of_getElem? hlj)).a_ ((q.nx + (new.length : Int)) % 4294967296))
      have HB0 := keep (below_lay wr (.cells { x with a := (q.nx + (new.length : Int)) % 4294967296 : CZ }.cells.toArray 45))
      have HV := keep ((hzv.step HB0.out).a_ (nx := (q.nx + (new.length : Int)) % 4294967296) (by omega))
      obtain ⟨b', ⟨g1, g2, g3⟩, O', F'⟩ := G'
      obtain rfl : b' = G.b := hlr.b
      have hg2 := hq.n
      have HG2 : Hid (g2 = q.es.length + new.length) := keep (by rw [show g2 = _ from hg2]; simp [pushQ])
      have c0 := hq.b0.1
      have c1 := hq.b0.2.1
      have f0 := hq.b0.2.2.1
      have f1 := hq.b0.2.2.2
      have HQ := keep (And.intro hq (And.intro hlr (And.intro hpn (And.intro hGm hMg))))
      have HNL := keep hpn.len
      have hqb := hq.olt _ hq.ob
      have hge : g2 ≤ 1024 := by have := hq.le; rw [← hg2] at this; exact this
      dsimp only [pushQ] at c0 c1 f0 f1 hqb
      generalize hnxv : (q.nx + (new.length : Int)) % 4294967296 = nx at c1 HB0 HV HSX
      have HNX := keep hnxv
      obtain ⟨i0, hi0, hiz, his, hib⟩ := info_parts cPtr_info
      clear hq hlr hpn hGm hMg hz hlj hzv hnxv hg2
      obtain ⟨xk, xf, xa, xb, xo, xs, xp, ⟨x1, x2, x3⟩, ⟨x4, x5, x6⟩, ⟨x7, x8, x9⟩, ⟨x10, x11, x12⟩, ⟨x13, x14, x15⟩, xbl, xdu, xsk, xpr, xbs⟩ := x
      dsimp only [Z12] at hz12
      dsimp only [CZ.cells] at HB0 HV HSX
      obtain ⟨z0, z1, z2, z3, z4, z5, z6, z7, z8, z9, z10, z11⟩ := hz12
      go_wp2
      go_region_law (first
        | (refine step_appendA (S := 1) (by decide) rfl (.tmp 53) (.tmp 59) 54 rfl 0 75 i0 (.pointer none) Try.underlying54 hi0 hiz his rfl _ g2 _ (by simp [Act.eval, Act.put]) HQ4.out.row _ 1 1 [.pointer (some ⟨w3.heap.size, 0, none⟩)] (by simp [Act.eval, Act.put]) rfl HN4.out (by simp [Value.oneCell']) (by unfold maxLen; omega) (by rw [hib]; omega) (Nat.zero_le _) ?_
           intro A5 c5 w5 ho5 hg5 hl5
           have HA5 := keep (And.intro ho5 (And.intro hg5 hl5))
           obtain ⟨c0, f0⟩ := HQ4.out.b_grown hg5
           dsimp only at c0 f0
           clear ho5 hg5 hl5)
        | (go_simp
           go_at_call 37
           refine (copied_any ⟨xk, xf, nx, xb, xo, xs, xp, ⟨x1, x2, x3⟩, ⟨x4, x5, x6⟩, ⟨x7, x8, x9⟩, ⟨x10, x11, x12⟩, ⟨x13, x14, x15⟩, xbl, xdu, xsk, xpr, xbs⟩ _ (HV.out.step (Below.refl _ _).drew) HSX.out).mono ?_
           rintro e w3 ⟨⟨yk, yf, ya, yb, yo, ys, yp, ⟨y1, y2, y3⟩, ⟨y4, y5, y6⟩, ⟨y7, y8, y9⟩, ⟨y10, y11, y12⟩, ⟨y13, y14, y15⟩, ybl, ydu, ysk, ypr, ybs⟩, rfl, hy⟩
           have HY := keep hy
           have hb3 : Below wr.heap.size wr w3 := HB0.out.drew.trans (hy.2.2.2.2.2.2.mono HB0.out.drew.size)
           have HB3 := keep hb3
           have hq3 := HQ.out.1.step hb3
           have hqb3 := hq3.olt _ hq3.ob
           clear c0 c1 f0 f1
           obtain ⟨c0, c1, f0, f1⟩ := hq3.b0
           dsimp only [pushQ] at c0 c1 f0 f1 hqb3
           rw [HNX.out] at c1
           have HQ4 := keep (hq3.step (up (below_lay w3 (.cells #[.int .u8 yk, .int .u8 yf, .int .u32 ya, .int .u32 yb, .int .u16 yo, .int .u16 ys, .int .u32 yp, .slice y1 y2 y3, .slice y4 y5 y6, .slice y7 y8 y9, .slice y10 y11 y12, .slice y13 y14 y15, .pointer (some ⟨w1.heap.size, 0, none⟩), .int .i64 0, .int .i64 0, .int .i64 0, .int .i64 0] 78)) (below_lay _ (.cells #[.pointer (some ⟨w3.heap.size, 0, none⟩)] 75))))
           have HN4 := keep (cell_one_new (w3.alloc (.cells #[.int .u8 yk, .int .u8 yf, .int .u32 ya, .int .u32 yb, .int .u16 yo, .int .u16 ys, .int .u32 yp, .slice y1 y2 y3, .slice y4 y5 y6, .slice y7 y8 y9, .slice y10 y11 y12, .slice y13 y14 y15, .pointer (some ⟨w1.heap.size, 0, none⟩), .int .i64 0, .int .i64 0, .int .i64 0, .int .i64 0] 78)) (.pointer (some ⟨w3.heap.size, 0, none⟩)) 75)
           rw [World.size_alloc] at HN4
           clear hy hb3 hq3
           dsimp only [CZ.cells]))
      all_goals
        have hy := HY.out
        obtain ⟨r1, r2, r3⟩ := push_mid HQ.out.1 HQ.out.2.2.2.1 HQ.out.2.2.2.2 (by unfold pushQ; dsimp only; rw [if_pos rfl]) HB3.out hy.2.2.1 hy.2.2.2.1 (fun p hp a ea => ⟨Nat.le_trans HB0.out.size (hy.2.2.2.2.1 p hp a ea).1, (hy.2.2.2.2.1 p hp a ea).2⟩) (by have := HF.out; have := HNL.out; have := hlt; simp only [pushQ, List.length_append]; omega) rfl HA5.out.1 HA5.out.2.1 HA5.out.2.2
        have HR := keep (push_next (e := ⟨w3.heap.size, _, w1.heap.size, 0, 0, 0, 0⟩) HQ.out.2.1 HQ.out.2.2.1 HQ.out.2.2.2.1 r1 r2 r3 (fun i hi => .inl hi) HX.out (by rw [HNX.out]; exact hy.1) hy.2.1 ⟨rfl, rfl, rfl, rfl, rfl⟩)
        clear c0 f0 c1 f1
        obtain ⟨_, c1, _, f1⟩ := r1.b0
        dsimp only [appG, pushQ] at c1 f1 HR
        rw [HNX.out] at c1 HR
        clear hy r1 r2 r3
        go_wp2
        go_roundw
        case rel => exact ⟨j + 1, by omega, by go_num, HR⟩
        case measure => simp [intOf]; omega
    · obtain rfl : l.length = j := by omega
      go_wp2
      go_ret
      exact ⟨rfl, _, hm.out, HI.out⟩
end
end Go.Proofs.Ytffjdknmfmlfnaa
