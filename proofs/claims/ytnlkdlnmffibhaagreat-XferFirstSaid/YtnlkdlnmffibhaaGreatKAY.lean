/- KAY of the stage: texts JK, JL, joined. -/
import Derived.Test.YtnlkdlnmffibhaaGreatKAX
set_option linter.unusedSimpArgs false
set_option linter.unusedVariables false
set_option maxRecDepth 8000
namespace Go.Proofs.YtnlkdlnmffibhaaGreat
section
open Go.RowKit Go.Maps
theorem JA.addF {w : World} {G : Gh} {j : Jn} {o : Int} (h : JA w G j o) {P : Nat → Prop} (hP : ∀ i, P i → ¬ G.O i ∧ i < w.heap.size) : JA w { G with F := fun i => G.F i ∨ P i } j o := by
  have inF : ∀ A, InF_jo G.F A → InF_jo (fun i => G.F i ∨ P i) A := fun A hA a e => .inl (hA a e)
  refine ⟨h.blk, h.ob, h.n, ⟨h.pa.map, h.pa.ok, fun n p e => ?_, h.pa.has, h.pa.inj⟩, ⟨h.sa.row, h.sa.maps, h.sa.osb, h.sa.ow, h.sa.inj, h.sa.msg, fun i hi k x e => ⟨(h.sa.vs i hi k x e).1, inF _ (h.sa.vs i hi k x e).2⟩⟩, ⟨h.ra.row, h.ra.own, h.ra.is, fun x hx => ⟨(h.ra.vs x hx).1, inF _ (h.ra.vs x hx).2⟩⟩, h.km, fun i hi hc => ?_, h.olt, fun i hi => ?_⟩
  · obtain ⟨a, b, c⟩ := h.pa.op n p e
    exact ⟨a, ⟨b.blk, b.cv, b.pr, b.ps, inF _ b.da, b.f0⟩, c⟩
  · rcases hc with hc | hc
    · exact h.dis i hi hc
    · exact (hP i hc).1 hi
  · rcases hi with hi | hi
    · exact h.flt i hi
    · exact (hP i hi).2
def CX.c0 (x : CX) : Ch := ⟨x.kd, x.fl, x.a, 0, x.ou, x.si, x.pp, x.bs⟩
def Gh.put (G : Gh) (p : Nat) (y : CX) (P : Nat → Prop) : Gh := { G with pb := fun n => if n = y.a then some p else G.pb n, pc := fun n => if n = y.a then y else G.pc n, far := fun n => if n = y.a then 0 else G.far n, O := fun i => G.O i ∨ i = p, F := fun i => G.F i ∨ P i }
theorem JA.made {w : World} {G : Gh} {j : Jn} {o : Int} (h : JA w G j o) (hg : Good j) {x : CX} (hx : CV w x) {A : Option Addr} {n c : Nat} (hb : BS w A n c x.bs) {B : Nat} (hA : ∀ a, A = some a → B ≤ a.block) (hB : ∀ i, G.O i → i < B) (hno : ∀ y ∈ j.ch, y.a ≠ x.a) (hne : x.bs ≠ []) :
    ∃ w6, (Instr.mapUpdate 123 (.map (some G.k)) (.int .u32 x.a) (.pointer (some ⟨w.heap.size, 0, none⟩))).run Tryz.prog (w.alloc (.cells ((x.keptAt A n c).cells ++ [Value.int .u32 0]).toArray 194)) = .ok () w6 ∧
      JA w6 (G.put w.heap.size (x.keptAt A n c) fun i => B ≤ i ∧ i < w.heap.size) { j with ch := x.c0 :: j.ch } o ∧ Part (fun i => i = G.k) w w6 ∧ w.heap.size < w6.heap.size := by
  have hpb : G.pb x.a = none := by
    cases hp : G.pb x.a with
    | none => rfl
    | some p => exact absurd (h.pa.op _ _ hp).2.2.2 (hno _ (h.pa.op _ _ hp).2.2.1)
  have hl := below_lay w (.cells ((x.keptAt A n c).cells ++ [Value.int .u32 0]).toArray 194)
  have h1 := (h.addF (P := fun i => B ≤ i ∧ i < w.heap.size) fun i hi => ⟨fun ho => by have := hB i ho; omega, hi.2⟩).step hl
  have hch := hg.ch
  obtain ⟨w6, hrun, hm, hgr, hs⟩ := h1.pa.map.store Tryz.underlying22 Tryz.underlying123 (wf32_jo hx.a.1 hx.a.2) (by unfold maxLen; omega) (.pointer (some ⟨w.heap.size, 0, none⟩))
  have hpc : PieceAt (w.alloc (.cells ((x.keptAt A n c).cells ++ [Value.int .u32 0]).toArray 194)) (fun i => G.F i ∨ (B ≤ i ∧ i < w.heap.size)) w.heap.size (x.keptAt A n c) 0 := by
    refine ⟨heap_alloc_new w _, ⟨hx.kd, hx.fl, hx.a, (show (0 : Int) ≤ 0 ∧ (0 : Int) < 4294967296 by decide), hx.ou, hx.si, hx.pp, PR.nil _, hb.step hl⟩, rfl, rfl, fun a e => .inr ⟨hA a e, ?_⟩, by decide⟩
    refine Classical.byContradiction fun hc => ?_
    obtain ⟨g, o, e', hlt, _⟩ := hb.br (fun h0 => by
      have := congrArg List.length h0
      rw [bc_length] at this
      exact hne (List.eq_nil_of_length_eq_zero this))
    have e : A = some a := e
    rw [e] at e'
    injection e' with e'
    rw [e'] at hc
    exact hc hlt
  have hJ := h1.putPiece hpc (fun ho => by have := h.olt _ ho; omega) hpb hm hgr (fun hf => by
    rcases hf with hf | hf
    · have := h.flt _ hf; omega
    · omega)
  refine ⟨w6, hrun, hJ.1, ?_, ?_⟩
  · exact (Part.of_below (fun i => i = G.k) hl).trans hJ.2 fun i hi => .inl hi
  · rw [hs]
    simp
def HoldP (w : World) (G : Gh) (j : Jn) (x : CX) (a z : Ch) (e : Ending) (w' : World) : Prop :=
  e = .returned (.tuple #[.int .u32 a.a, .int .u32 z.a]) ∧ ∃ G', JA w' G' { j with ch := x.c0 :: j.ch } ((j.oct : Int) + x.bs.length) ∧ Ends (x.c0 :: j.ch) G'.far ∧ Later w G w' G'
theorem tog_pred {l : List Ch} {c : Ch} (hk : KeysC (c :: l)) (hn : NumC (c :: l)) {a1 : Int} (ea : a1 = (c.a - 1) % 4294967296) : (tog (c :: l) a1 = true ↔ ∃ y ∈ l, Fol y c) ∧ ∀ y ∈ l, Fol y c → y.a = a1 := by
  have hc := hn c List.mem_cons_self
  refine ⟨⟨fun h => ?_, fun ⟨y, hy, hf⟩ => tog_iff.2 ⟨y, List.mem_cons_of_mem _ hy, ?_, c, List.mem_cons_self, hf⟩⟩, fun y hy hf => ?_⟩
  · obtain ⟨x, hx, e, y, hy, hf⟩ := tog_iff.1 h
    have : y = c := hk.one hy List.mem_cons_self (by rw [hf.a, e, ea]; omega)
    subst this
    rcases List.mem_cons.1 hx with rfl | hx
    · have := hf.a
      omega
    · exact ⟨x, hx, hf⟩
  · have := hf.a
    have := hn y (List.mem_cons_of_mem _ hy)
    omega
  · have := hf.a
    have := hn y (List.mem_cons_of_mem _ hy)
    omega
theorem tog_succ {l : List Ch} {c : Ch} (hk : KeysC (c :: l)) (hn : NumC (c :: l)) : (tog (c :: l) c.a = true ↔ ∃ y ∈ l, Fol c y) := by
  have hc := hn c List.mem_cons_self
  refine ⟨fun h => ?_, fun ⟨y, hy, hf⟩ => tog_iff.2 ⟨c, List.mem_cons_self, rfl, y, List.mem_cons_of_mem _ hy, hf⟩⟩
  obtain ⟨x, hx, e, y, hy, hf⟩ := tog_iff.1 h
  have : x = c := hk.one hx List.mem_cons_self e
  subst this
  rcases List.mem_cons.1 hy with rfl | hy
  · have := hf.a
    omega
  · exact ⟨y, hy, hf⟩
theorem Ends.congr {l : List Ch} {far far' : Int → Int} (h : Ends l far) (e : ∀ y ∈ l, far' y.a = far y.a) : Ends l far' := fun s hs x z hx hz => by
  obtain ⟨h1, h2⟩ := h s hs x z hx hz
  rw [e x (hs.mem x (List.mem_of_getElem? hx)), e z (hs.mem z (List.mem_of_getLast? hz))]
  exact ⟨h1, h2⟩
set_option maxRecDepth 1000000 in
set_option maxHeartbeats 4000000 in
theorem hold_any {w : World} {G : Gh} {j : Jn} (h : JA w G j (j.oct : Int)) (hg : Good j) {x : CX} (hx : CV w x) (he : addE j x.c0 = 0) (hE : Ends j.ch G.far) {s : List Ch} (hs : Mx (x.c0 :: j.ch) s) (hc : x.c0 ∈ s) {a z : Ch} (ha : s[0]? = some a) (hz : s.getLast? = some z) :
    Calls Tryz.prog 115 #[.pointer (some ⟨G.b, 0, none⟩), .agg x.cells.toArray] w (HoldP w G j x a z) := by
  obtain ⟨_, hne, _, hno, hroom⟩ := addE_ok he
  have hb0 := h.olt _ h.ob
  have hk0 := h.olt _ h.pa.ok
  have hbk := h.only_b.k
  have L0 := below_lay w (.cells x.cells.toArray 41)
  have B0 := (show KB (w.alloc (.cells x.cells.toArray 41)) w.heap.size x from heap_alloc_new w _)
  have J0 := h.step L0
  have hlen : x.bs.length ≤ 100000 := by have : x.bs.length ≤ 65536 := by (have : j.oct + x.bs.length ≤ 65536 := hroom); omega
                                         omega
  have KK := keep (kept_any (hx.step (L0.trans (Below.refl _ (w.alloc (.cells x.cells.toArray 41))).drew)) hne hlen)
  have HS := keep fun W (h1 : W.heap[G.b]? = (w.alloc (.cells x.cells.toArray 41)).heap[G.b]?) (h3 : W.heap[w.heap.size]? = (w.alloc (.cells x.cells.toArray 41)).heap[w.heap.size]?) => And.intro ((World.cell?_of_block (a := ⟨G.b, 0, none⟩) h1).trans J0.c0) (show KB W w.heap.size x from by unfold KB; rw [h3]; exact B0).at_
  have HM := keep fun (W : World) (A : Option Addr) (n c : Nat) (hB : Below (w.alloc (.cells x.cells.toArray 41)).heap.size (w.alloc (.cells x.cells.toArray 41)) W) (hb : BS W A n c x.bs) (hA : ∀ a, A = some a → (w.alloc (.cells x.cells.toArray 41)).heap.size ≤ a.block) =>
    (J0.step hB).made hg (hx.step (up L0 hB)) hb hA (fun i hi => by have := h.olt i hi; simp; omega) hno hne
  have HX := keep hx
  have HEE := keep he
  have HH := keep h
  have hne9 : G.b ≠ w.heap.size := by omega
  have hne8 : G.k ≠ w.heap.size := by omega
  have HL0 := keep L0
  have HB := keep B0
  have H0 := HS.out _ rfl rfl
  clear h hx he hno hroom hne hlen J0 L0 B0
  obtain ⟨b, k, sb, N, v, pb, pc, far, wm, gs, rs, O, F⟩ := G
  obtain ⟨xk, xf, xa, xb, xo, xs, xp, ⟨x1, x2, x3⟩, ⟨x4, x5, x6⟩, ⟨x7, x8, x9⟩, ⟨x10, x11, x12⟩, ⟨x13, x14, x15⟩, xps, xbs⟩ := x
  dsimp only [CX.cells, CX.keptAt, At12, Nat.zero_add, List.cons_append, List.nil_append] at *
  go_enter Tryz.func115, Tryz.ntmps115
  go_wp2
  go_region_held3 (fun w' => w'.cell? ⟨b, 0, none⟩ = some (.map (some k)) ∧ w'.cell? ⟨w.heap.size, 0, none⟩ = some (.int .u8 xk) ∧ w'.cell? ⟨w.heap.size, 1, none⟩ = some (.int .u8 xf) ∧ w'.cell? ⟨w.heap.size, 2, none⟩ = some (.int .u32 xa) ∧ w'.cell? ⟨w.heap.size, 3, none⟩ = some (.int .u32 xb) ∧ w'.cell? ⟨w.heap.size, 4, none⟩ = some (.int .u16 xo) ∧ w'.cell? ⟨w.heap.size, 5, none⟩ = some (.int .u16 xs) ∧ w'.cell? ⟨w.heap.size, 6, none⟩ = some (.int .u32 xp) ∧ w'.cell? ⟨w.heap.size, 7, none⟩ = some (.slice x1 x2 x3) ∧ w'.cell? ⟨w.heap.size, 8, none⟩ = some (.slice x4 x5 x6) ∧ w'.cell? ⟨w.heap.size, 9, none⟩ = some (.slice x7 x8 x9) ∧ w'.cell? ⟨w.heap.size, 10, none⟩ = some (.slice x10 x11 x12) ∧ w'.cell? ⟨w.heap.size, 11, none⟩ = some (.slice x13 x14 x15))
    (first | exact H0 | exact q5 | exact q6 | exact q7)
    (first
      | (go_at_call 135; refine KK.out.mono ?_
         rintro e w5 ⟨A5, n5, c5, he5, hb5, hl5, ho5⟩
         obtain rfl : e = .returned (.agg #[.int .u8 xk, .int .u8 xf, .int .u32 xa, .int .u32 0, .int .u16 xo, .int .u16 xs, .int .u32 xp, .slice none 0 0, .slice none 0 0, .slice none 0 0, .slice none 0 0, .slice A5 n5 c5]) := he5
         have hl5' := ((Below.refl _ _).drew).trans hl5
         obtain ⟨w6, hrun6, J6, P6, S6⟩ := HM.out w5 A5 n5 c5 hl5' hb5 ho5
         have e1 : w5.heap[b]? = _ := hl5'.block b (Nat.lt_of_lt_of_le hb0 HL0.out.size)
         have e2 : w5.heap[w.heap.size]? = _ := hl5'.block w.heap.size (by simp)
         have q5 := HS.out w5 e1 e2
         have q6 := HS.out (w5.alloc (.cells #[.int .u8 xk, .int .u8 xf, .int .u32 xa, .int .u32 0, .int .u16 xo, .int .u16 xs, .int .u32 xp, .slice none 0 0, .slice none 0 0, .slice none 0 0, .slice none 0 0, .slice A5 n5 c5, .int .u32 0] 194)) (((below_lay w5 _).block b (Nat.lt_of_lt_of_le (Nat.lt_of_lt_of_le hb0 HL0.out.size) hl5'.size)).trans e1) (((below_lay w5 _).block w.heap.size (Nat.lt_of_lt_of_le (by simp) hl5'.size)).trans e2)
         have q7 := HS.out w6 ((P6.block b (Nat.lt_of_lt_of_le (Nat.lt_of_lt_of_le hb0 HL0.out.size) hl5'.size) hbk).trans e1) ((P6.block w.heap.size (Nat.lt_of_lt_of_le (by simp) hl5'.size) hne8.symm).trans e2)
         try dsimp only [At12, Nat.zero_add, CX.cells] at q5 q6 q7
         have kb6 := keep (show KB w6 w.heap.size ⟨xk, xf, xa, xb, xo, xs, xp, (x1, x2, x3), (x4, x5, x6), (x7, x8, x9), (x10, x11, x12), (x13, x14, x15), xps, xbs⟩ from ((P6.block w.heap.size (Nat.lt_of_lt_of_le (by simp) hl5'.size) hne8.symm).trans e2).trans HB.out)
         replace J6 := keep J6
         replace P6 := keep (And.intro P6 hl5')
         clear hb5 hl5 ho5 e1 e2 hl5'))
  have L6 := keep (show Later w ⟨b, k, sb, N, v, pb, pc, far, wm, gs, rs, O, F⟩ w6 (Gh.put ⟨b, k, sb, N, v, pb, pc, far, wm, gs, rs, O, F⟩ w5.heap.size ⟨xk, xf, xa, 0, xo, xs, xp, (none, 0, 0), (none, 0, 0), (none, 0, 0), (none, 0, 0), (A5, n5, c5), [], xbs⟩ fun i => (w.alloc (.cells #[.int .u8 xk, .int .u8 xf, .int .u32 xa, .int .u32 xb, .int .u16 xo, .int .u16 xs, .int .u32 xp, .slice x1 x2 x3, .slice x4 x5 x6, .slice x7 x8 x9, .slice x10 x11 x12, .slice x13 x14 x15] 41)).heap.size ≤ i ∧ i < w5.heap.size) from
    ⟨rfl, rfl, rfl, rfl, rfl, (Part.of_below O (up HL0.out P6.out.2)).trans P6.out.1 (fun i hi => .inl (by rw [hi]; exact HH.out.pa.ok)), fun i hi => by
      rcases hi with hi | hi
      · exact .inl hi
      · exact .inr (by rw [hi]; exact (up HL0.out P6.out.2).size), fun i hi => by
      rcases hi with hi | hi
      · exact .inl hi
      · exact .inr (Nat.le_trans HL0.out.size hi.1)⟩)
  have N6 := keep (show ¬ (Gh.put ⟨b, k, sb, N, v, pb, pc, far, wm, gs, rs, O, F⟩ w5.heap.size ⟨xk, xf, xa, 0, xo, xs, xp, (none, 0, 0), (none, 0, 0), (none, 0, 0), (none, 0, 0), (A5, n5, c5), [], xbs⟩ fun i => (w.alloc (.cells #[.int .u8 xk, .int .u8 xf, .int .u32 xa, .int .u32 xb, .int .u16 xo, .int .u16 xs, .int .u32 xp, .slice x1 x2 x3, .slice x4 x5 x6, .slice x7 x8 x9, .slice x10 x11 x12, .slice x13 x14 x15] 41)).heap.size ≤ i ∧ i < w5.heap.size).O w.heap.size from fun hi => by
      rcases hi with hi | hi
      · exact Nat.lt_irrefl _ (HH.out.olt _ hi)
      · have h1 : w.heap.size + 1 ≤ w5.heap.size := by
          have := P6.out.2.size
          simpa using this
        have h2 : w.heap.size = w5.heap.size := hi
        omega)
  have FA6 := keep (show ∀ n, n ≠ xa → (Gh.put ⟨b, k, sb, N, v, pb, pc, far, wm, gs, rs, O, F⟩ w5.heap.size ⟨xk, xf, xa, 0, xo, xs, xp, (none, 0, 0), (none, 0, 0), (none, 0, 0), (none, 0, 0), (A5, n5, c5), [], xbs⟩ fun i => (w.alloc (.cells #[.int .u8 xk, .int .u8 xf, .int .u32 xa, .int .u32 xb, .int .u16 xo, .int .u16 xs, .int .u32 xp, .slice x1 x2 x3, .slice x4 x5 x6, .slice x7 x8 x9, .slice x10 x11 x12, .slice x13 x14 x15] 41)).heap.size ≤ i ∧ i < w5.heap.size).far n = far n from fun n hn => if_neg hn)
  have J6' := J6
  clear J6
  generalize Gh.put _ _ _ _ = G1 at J6' L6 N6 FA6
  clear P6 q5 q6 q7 H0 HS HM KK hrun6
  generalize w5.heap.size = p5 at *
  have J7 := keep (And.intro J6'.out (And.intro kb6.out L6.out))
  clear J6' L6 kb6
  have HLE := keep (show (j.oct : Int) + x14 < 9223372036854775808 ∧ x14 = xbs.length from by
    have h1 := hg.le
    have h2 := HX.out.bs.len
    have h3 := (addE_ok HEE.out).2.2.2.2
    have h3 : j.oct + xbs.length ≤ 65536 := h3
    have h2 : x14 = xbs.length := h2
    omega)
  have hws : IntKind.i64.wrap ((j.oct : Int) + (x14 : Int)) = (j.oct : Int) + (x14 : Int) := wrap_small (by omega) HLE.out.1
  have eb : Hid (G1.b = b) := J7.out.2.2.b
  have c3 := J7.out.1.c3
  have fz := J7.out.1.fz 3
  rw [eb.out] at c3 fz
  have a11 := J7.out.2.1.at_.2.2.2.2.2.2.2.2.2.2.2
  dsimp only [Nat.zero_add] at a11
  generalize hoc : (j.oct : Int) = oc at *
  have HOO := keep (show (j.oct : Int) + (xbs.length : Nat) = oc + x14 from by rw [hoc, HLE.out.2])
  clear hoc
  go_wp2
  refine wp_region_still_tail 10 (by kernel_rfl) (by kernel_rfl) ?_
  simp only [List.take_succ_cons, List.take_zero, List.drop_succ_cons, List.drop_zero]
  repeat still_step
  refine wpStill_nil ?_
  go_wp2
  have J8 := (J7.out.1.step (Below.refl _ w6).drew).setO (oc + x14)
  have hb8 : w.heap.size ≠ b := by omega
  rw [eb.out] at J8
  have K8 := keep (show JA (w6.setCell ⟨b, 3, none⟩ (.int .i64 (oc + x14))).drew G1 _ (oc + x14) ∧ KB (w6.setCell ⟨b, 3, none⟩ (.int .i64 (oc + x14))).drew w.heap.size ⟨xk, xf, xa, xb, xo, xs, xp, (x1, x2, x3), (x4, x5, x6), (x7, x8, x9), (x10, x11, x12), (x13, x14, x15), xps, xbs⟩ ∧ Later w _ (w6.setCell ⟨b, 3, none⟩ (.int .i64 (oc + x14))).drew G1 from And.intro J8.1 (And.intro ((heap_setCell_other w6.drew ⟨b, 3, none⟩ w.heap.size _ hb8).trans J7.out.2.1) ((J7.out.2.2.trans (Later.below (Below.refl _ w6).drew)).trans ⟨rfl, rfl, rfl, rfl, rfl, J8.2.mono fun i hi => by rw [hi, ← eb.out]; exact J7.out.1.ob, fun i hi => .inl hi, fun i hi => .inl hi⟩)))
  clear J8 c3 fz a11 J7 hws
  generalize World.drew _ = W8 at K8 ⊢
  have a2 := K8.out.2.1.at_.2.2.1
  dsimp only at a2
  go_quiet (fail)
  have K9 := keep (And.intro (K8.out.1.step (below_drewN (Below.refl _ W8) nq)) (And.intro (show KB (World.drewN W8 nq) w.heap.size ⟨xk, xf, xa, xb, xo, xs, xp, (x1, x2, x3), (x4, x5, x6), (x7, x8, x9), (x10, x11, x12), (x13, x14, x15), xps, xbs⟩ from K8.out.2.1) (K8.out.2.2.trans (Later.below (below_drewN (Below.refl _ W8) nq)))))
  generalize World.drewN W8 nq = W9 at K9 ⊢
  clear K8 a2
  have a2 := K9.out.2.1.at_.2.2.1
  dsimp only at a2
  obtain ⟨am, ham⟩ : ∃ q, IntKind.u32.wrap (xa - 1) = q := ⟨_, rfl⟩
  have hae : Hid (am = (xa - 1) % 4294967296) := by rw [← ham, wrap_u32]; exact keep rfl
  have HKC := keep (put_wf hg.wf (c := (⟨xk, xf, xa, xb, xo, xs, xp, (x1, x2, x3), (x4, x5, x6), (x7, x8, x9), (x10, x11, x12), (x13, x14, x15), xps, xbs⟩ : CX).c0) ⟨HX.out.a.1, HX.out.a.2, HX.out.si.1, HX.out.si.2⟩ HEE.out)
  have HKN := keep (And.intro HKC.out.kc HKC.out.nc)
  have hlen4 : Hid ((CX.c0 ⟨xk, xf, xa, xb, xo, xs, xp, (x1, x2, x3), (x4, x5, x6), (x7, x8, x9), (x10, x11, x12), (x13, x14, x15), xps, xbs⟩ :: j.ch).length < 4294967296) := by
    have := hg.ch
    refine keep ?_
    simp only [List.length_cons]
    omega
  have FO := first_of HKN.out.1 HKN.out.2 hlen4.out hE hs hc ha
  have LO := last_of HKN.out.1 HKN.out.2 hlen4.out hE hs hc hz
  have TG1 := tog_pred HKN.out.1 HKN.out.2 (a1 := am) hae.out
  have TG2 := tog_succ HKN.out.1 HKN.out.2
  have haR := HKN.out.2 a (hs.mem a (List.mem_of_getElem? ha))
  have hzR := HKN.out.2 z (hs.mem z (List.mem_of_getLast? hz))
  have hEN := keep (ends_hold HKN.out.1 HKN.out.2 (hE.congr (far' := G1.far) fun y hy => FA6.out y.a ((addE_ok HEE.out).2.2.2.1 y hy)) hs hc ha hz)
  obtain ⟨pa, hpa, _⟩ := K9.out.1.pa.has a (hs.mem a (List.mem_of_getElem? ha))
  obtain ⟨pz, hpz, _⟩ := K9.out.1.pa.has z (hs.mem z (List.mem_of_getLast? hz))
  obtain ⟨fa, hfa⟩ : ∃ q, a.a = q := ⟨_, rfl⟩
  obtain ⟨la, hla⟩ : ∃ q, z.a = q := ⟨_, rfl⟩
  rw [hfa] at FO hpa haR hEN
  rw [hla] at LO hpz hzR hEN
  have HFA := keep hfa
  have HLA := keep hla
  have HPA := keep hpa
  have HPZ := keep hpz
  have HAR := keep haR
  have HZR := keep hzR
  have HA0 := keep (show 0 ≤ am ∧ am < 4294967296 from by have := hae.out; omega)
  obtain ⟨au, hau⟩ : ∃ q, IntKind.u32.wrap (xa + 1) = q := ⟨_, rfl⟩
  have hue : Hid (au = (xa + 1) % 4294967296) := by rw [← hau, wrap_u32]; exact keep rfl
  have HU0 := keep (show 0 ≤ au ∧ au < 4294967296 from by have := hue.out; omega)
  have HXA := keep HX.out.a
  have F1 : Hid ((tog (CX.c0 ⟨xk, xf, xa, xb, xo, xs, xp, (x1, x2, x3), (x4, x5, x6), (x7, x8, x9), (x10, x11, x12), (x13, x14, x15), xps, xbs⟩ :: j.ch) am = false → fa = xa) ∧ (tog (CX.c0 ⟨xk, xf, xa, xb, xo, xs, xp, (x1, x2, x3), (x4, x5, x6), (x7, x8, x9), (x10, x11, x12), (x13, x14, x15), xps, xbs⟩ :: j.ch) am = true → ∃ p, G1.pb am = some p ∧ G1.far am = fa)) := by
    refine keep ⟨fun hT => ?_, fun hT => ?_⟩
    · have := FO.1 fun y hy hf => by
        have := TG1.1.2 ⟨y, hy, hf⟩
        rw [hT] at this
        cases this
      rw [← hfa, this]
      rfl
    · obtain ⟨y, hy, hf⟩ := TG1.1.1 hT
      have ey := TG1.2 y hy hf
      obtain ⟨p, hp, _⟩ := K9.out.1.pa.has y (List.mem_cons_of_mem _ hy)
      rw [ey] at hp
      refine ⟨p, hp, ?_⟩
      rw [FA6.out am (by have := hae.out; have := HXA.out; dsimp only at this; omega), ← ey]
      exact FO.2 y hy hf
  have F2 : Hid ((tog (CX.c0 ⟨xk, xf, xa, xb, xo, xs, xp, (x1, x2, x3), (x4, x5, x6), (x7, x8, x9), (x10, x11, x12), (x13, x14, x15), xps, xbs⟩ :: j.ch) xa = false → la = xa) ∧ (tog (CX.c0 ⟨xk, xf, xa, xb, xo, xs, xp, (x1, x2, x3), (x4, x5, x6), (x7, x8, x9), (x10, x11, x12), (x13, x14, x15), xps, xbs⟩ :: j.ch) xa = true → ∃ p, G1.pb au = some p ∧ G1.far au = la)) := by
    refine keep ⟨fun hT => ?_, fun hT => ?_⟩
    · have := LO.1 fun y hy hf => by
        have := TG2.2 ⟨y, hy, hf⟩
        rw [show tog (CX.c0 ⟨xk, xf, xa, xb, xo, xs, xp, (x1, x2, x3), (x4, x5, x6), (x7, x8, x9), (x10, x11, x12), (x13, x14, x15), xps, xbs⟩ :: j.ch) (CX.c0 ⟨xk, xf, xa, xb, xo, xs, xp, (x1, x2, x3), (x4, x5, x6), (x7, x8, x9), (x10, x11, x12), (x13, x14, x15), xps, xbs⟩).a = false from hT] at this
        cases this
      rw [← hla, this]
      rfl
    · obtain ⟨y, hy, hf⟩ := TG2.1 hT
      have ey : y.a = au := by rw [hf.a, hue.out]; rfl
      obtain ⟨p, hp, _⟩ := K9.out.1.pa.has y (List.mem_cons_of_mem _ hy)
      rw [ey] at hp
      refine ⟨p, hp, ?_⟩
      rw [FA6.out au (by have := hue.out; have := HXA.out; dsimp only at this; omega), ← ey]
      exact LO.2 y hy hf
  clear FO LO TG1 TG2 haR hzR hpa hpz hfa hla hs hc ha hz hE hg
  have TQ := together_any K9.out.1 HKN.out.1 (n := am) HA0.out.1 HA0.out.2
  rw [eb.out] at TQ
  have ek : Hid (G1.k = k) := K9.out.2.2.k
  cases hT1 : tog (CX.c0 ⟨xk, xf, xa, xb, xo, xs, xp, (x1, x2, x3), (x4, x5, x6), (x7, x8, x9), (x10, x11, x12), (x13, x14, x15), xps, xbs⟩ :: j.ch) am with
  | false =>
    rw [hT1] at TQ
    replace TQ := keep TQ
    cases hT2 : tog (CX.c0 ⟨xk, xf, xa, xb, xo, xs, xp, (x1, x2, x3), (x4, x5, x6), (x7, x8, x9), (x10, x11, x12), (x13, x14, x15), xps, xbs⟩ :: j.ch) xa with
    | false =>
      have e9 := (F1.out.1 hT1).symm
      subst e9
      have e8 := (F2.out.1 hT2).symm
      subst e8
      go_wp2_with (first
        | (go_at_call 137; refine BD.out.mono ?_; rintro e w4 ⟨rfl, hj4⟩; replace hj4 := keep hj4)
        | (go_at_call 136; refine TR.out.mono ?_; rintro e w3 ⟨rfl, hb3⟩
           have KB3 := keep (And.intro (KX.out.1.step hb3) (And.intro (show KB w3 w.heap.size ⟨xk, xf, xa, xb, xo, xs, xp, (x1, x2, x3), (x4, x5, x6), (x7, x8, x9), (x10, x11, x12), (x13, x14, x15), xps, xbs⟩ from (Below.block hb3 w.heap.size KX.out.2.1.lt).trans KX.out.2.1) (KX.out.2.2.trans (Later.below hb3))))
           clear hb3 t2
           have BD := bind_any KB3.out.1 HAR.out HZR.out HPA.out HPZ.out
           rw [eb.out] at BD
           replace BD := keep BD)
        | (go_at_call 136; refine TQ.out.mono ?_; rintro e w2 ⟨rfl, hb2⟩
           have KA := keep (And.intro (K9.out.1.step hb2) (And.intro (show KB w2 w.heap.size ⟨xk, xf, xa, xb, xo, xs, xp, (x1, x2, x3), (x4, x5, x6), (x7, x8, x9), (x10, x11, x12), (x13, x14, x15), xps, xbs⟩ from (Below.block hb2 w.heap.size K9.out.2.1.lt).trans K9.out.2.1) (K9.out.2.2.trans (Later.below hb2))))
           clear hb2
           have KX := KA
           have TR := together_any KA.out.1 HKN.out.1 (n := xa) HXA.out.1 HXA.out.2
           rw [eb.out, hT2] at TR
           replace TR := keep TR
           have t2 := KA.out.2.1.at_.2.2.1
           try dsimp only at t2))
      go_ret2
      have hJ := hj4.out.1
      rw [← HOO.out] at hJ
      refine ⟨by rw [HFA.out, HLA.out] <;> rfl, Exists.intro _ (And.intro hJ ?_)⟩
      exact And.intro hEN.out (KB3.out.2.2.trans ⟨eb.out.symm, rfl, rfl, rfl, rfl, hj4.out.2, fun i hi => .inl hi, fun i hi => .inl hi⟩)
    | true =>
      have e9 := (F1.out.1 hT1).symm
      subst e9
      go_wp2_with (first
        | (go_at_call 136; refine TR.out.mono ?_; rintro e w3 ⟨rfl, hb3⟩
           have KB3 := keep (And.intro (KX.out.1.step hb3) (And.intro (show KB w3 w.heap.size ⟨xk, xf, xa, xb, xo, xs, xp, (x1, x2, x3), (x4, x5, x6), (x7, x8, x9), (x10, x11, x12), (x13, x14, x15), xps, xbs⟩ from (Below.block hb3 w.heap.size KX.out.2.1.lt).trans KX.out.2.1) (KX.out.2.2.trans (Later.below hb3))))
           clear hb3 t2
           have t3 := KB3.out.2.1.at_.2.2.1
           try dsimp only at t3)
        | (go_at_call 136; refine TQ.out.mono ?_; rintro e w2 ⟨rfl, hb2⟩
           have KA := keep (And.intro (K9.out.1.step hb2) (And.intro (show KB w2 w.heap.size ⟨xk, xf, xa, xb, xo, xs, xp, (x1, x2, x3), (x4, x5, x6), (x7, x8, x9), (x10, x11, x12), (x13, x14, x15), xps, xbs⟩ from (Below.block hb2 w.heap.size K9.out.2.1.lt).trans K9.out.2.1) (K9.out.2.2.trans (Later.below hb2))))
           clear hb2
           have KX := KA
           have TR := together_any KA.out.1 HKN.out.1 (n := xa) HXA.out.1 HXA.out.2
           rw [eb.out, hT2] at TR
           replace TR := keep TR
           have t2 := KA.out.2.1.at_.2.2.1
           try dsimp only at t2))
      clear t3
      obtain ⟨p9, hp9, hf9⟩ := F2.out.2 hT2
      have JD := KB3.out.1.step (Below.refl _ w3).drew
      have LK := (rel_map JD _ rfl rfl).2 au HU0.out.1 HU0.out.2
      rw [pgV_some hp9] at LK
      dsimp only [Option.getD] at LK
      have C0 := JD.c0
      have PF := (JD.pa.op _ _ hp9).2.1.at_.2.1
      rw [hf9] at PF
      rw [eb.out] at C0
      rw [ek.out] at C0 LK
      have A2 := (show KB w3.drew w.heap.size ⟨xk, xf, xa, xb, xo, xs, xp, (x1, x2, x3), (x4, x5, x6), (x7, x8, x9), (x10, x11, x12), (x13, x14, x15), xps, xbs⟩ from KB3.out.2.1).at_.2.2.1
      try dsimp only at A2
      have KB3d := keep (And.intro (KB3.out.1.step (Below.refl _ w3).drew) (And.intro (show KB w3.drew w.heap.size ⟨xk, xf, xa, xb, xo, xs, xp, (x1, x2, x3), (x4, x5, x6), (x7, x8, x9), (x10, x11, x12), (x13, x14, x15), xps, xbs⟩ from (Below.block (Below.refl _ w3).drew w.heap.size KB3.out.2.1.lt).trans KB3.out.2.1) (KB3.out.2.2.trans (Later.below (Below.refl _ w3).drew))))
      clear JD
      go_region_held3 (fun w' => w'.cell? ⟨b, 0, none⟩ = some (.map (some k)) ∧ w'.cell? ⟨w.heap.size, 2, none⟩ = some (.int .u32 xa) ∧ (Instr.lookup 123 (.map (some k)) (.int .u32 au) false).run Tryz.prog w' = .ok (.pointer (some ⟨p9, 0, none⟩)) w' ∧ w'.cell? ⟨p9, 12, none⟩ = some (.int .u32 la))
        (first | exact ⟨C0, A2, LK, PF⟩) (first | fail)
      clear C0 A2 LK PF hp9 hf9
      generalize w3.drew = w3e at KB3d ⊢
      have BD := bind_any KB3d.out.1 HAR.out HZR.out HPA.out HPZ.out
      rw [eb.out] at BD
      replace BD := keep BD
      go_wp2_with (first
        | (go_at_call 137; refine BD.out.mono ?_; rintro e w4 ⟨rfl, hj4⟩; replace hj4 := keep hj4))
      go_ret2
      have hJ := hj4.out.1
      rw [← HOO.out] at hJ
      refine ⟨by rw [HFA.out, HLA.out] <;> rfl, Exists.intro _ (And.intro hJ ?_)⟩
      exact And.intro hEN.out (KB3d.out.2.2.trans ⟨eb.out.symm, rfl, rfl, rfl, rfl, hj4.out.2, fun i hi => .inl hi, fun i hi => .inl hi⟩)
  | true =>
    rw [hT1] at TQ
    replace TQ := keep TQ
    cases hT2 : tog (CX.c0 ⟨xk, xf, xa, xb, xo, xs, xp, (x1, x2, x3), (x4, x5, x6), (x7, x8, x9), (x10, x11, x12), (x13, x14, x15), xps, xbs⟩ :: j.ch) xa with
    | false =>
      have e8 := (F2.out.1 hT2).symm
      subst e8
      go_wp2_with (first
        | (go_at_call 136; refine TQ.out.mono ?_; rintro e w2 ⟨rfl, hb2⟩
           have KA := keep (And.intro (K9.out.1.step hb2) (And.intro (show KB w2 w.heap.size ⟨xk, xf, xa, xb, xo, xs, xp, (x1, x2, x3), (x4, x5, x6), (x7, x8, x9), (x10, x11, x12), (x13, x14, x15), xps, xbs⟩ from (Below.block hb2 w.heap.size K9.out.2.1.lt).trans K9.out.2.1) (K9.out.2.2.trans (Later.below hb2))))
           clear hb2))
      obtain ⟨p9, hp9, hf9⟩ := F1.out.2 hT1
      have JD := KA.out.1.step (Below.refl _ w2).drew
      have LK := (rel_map JD _ rfl rfl).2 am HA0.out.1 HA0.out.2
      rw [pgV_some hp9] at LK
      dsimp only [Option.getD] at LK
      have C0 := JD.c0
      have PF := (JD.pa.op _ _ hp9).2.1.at_.2.1
      rw [hf9] at PF
      rw [eb.out] at C0
      rw [ek.out] at C0 LK
      have A2 := (show KB w2.drew w.heap.size ⟨xk, xf, xa, xb, xo, xs, xp, (x1, x2, x3), (x4, x5, x6), (x7, x8, x9), (x10, x11, x12), (x13, x14, x15), xps, xbs⟩ from KA.out.2.1).at_.2.2.1
      try dsimp only at A2
      have KAd := keep (And.intro (KA.out.1.step (Below.refl _ w2).drew) (And.intro (show KB w2.drew w.heap.size ⟨xk, xf, xa, xb, xo, xs, xp, (x1, x2, x3), (x4, x5, x6), (x7, x8, x9), (x10, x11, x12), (x13, x14, x15), xps, xbs⟩ from (Below.block (Below.refl _ w2).drew w.heap.size KA.out.2.1.lt).trans KA.out.2.1) (KA.out.2.2.trans (Later.below (Below.refl _ w2).drew))))
      clear JD
      go_region_held3 (fun w' => w'.cell? ⟨b, 0, none⟩ = some (.map (some k)) ∧ w'.cell? ⟨w.heap.size, 2, none⟩ = some (.int .u32 xa) ∧ (Instr.lookup 123 (.map (some k)) (.int .u32 am) false).run Tryz.prog w' = .ok (.pointer (some ⟨p9, 0, none⟩)) w' ∧ w'.cell? ⟨p9, 12, none⟩ = some (.int .u32 fa))
        (first | exact ⟨C0, A2, LK, PF⟩) (first | fail)
      clear C0 A2 LK PF hp9 hf9
      generalize w2.drew = w2e at KAd ⊢
      have KX := KAd
      have TR := together_any KAd.out.1 HKN.out.1 (n := xa) HXA.out.1 HXA.out.2
      rw [eb.out, hT2] at TR
      replace TR := keep TR
      have t2 := KAd.out.2.1.at_.2.2.1
      try dsimp only at t2
      go_wp2_with (first
        | (go_at_call 137; refine BD.out.mono ?_; rintro e w4 ⟨rfl, hj4⟩; replace hj4 := keep hj4)
        | (go_at_call 136; refine TR.out.mono ?_; rintro e w3 ⟨rfl, hb3⟩
           have KB3 := keep (And.intro (KX.out.1.step hb3) (And.intro (show KB w3 w.heap.size ⟨xk, xf, xa, xb, xo, xs, xp, (x1, x2, x3), (x4, x5, x6), (x7, x8, x9), (x10, x11, x12), (x13, x14, x15), xps, xbs⟩ from (Below.block hb3 w.heap.size KX.out.2.1.lt).trans KX.out.2.1) (KX.out.2.2.trans (Later.below hb3))))
           clear hb3 t2
           have BD := bind_any KB3.out.1 HAR.out HZR.out HPA.out HPZ.out
           rw [eb.out] at BD
           replace BD := keep BD))
      go_ret2
      have hJ := hj4.out.1
      rw [← HOO.out] at hJ
      refine ⟨by rw [HFA.out, HLA.out] <;> rfl, Exists.intro _ (And.intro hJ ?_)⟩
      exact And.intro hEN.out (KB3.out.2.2.trans ⟨eb.out.symm, rfl, rfl, rfl, rfl, hj4.out.2, fun i hi => .inl hi, fun i hi => .inl hi⟩)
    | true =>
      go_wp2_with (first
        | (go_at_call 136; refine TQ.out.mono ?_; rintro e w2 ⟨rfl, hb2⟩
           have KA := keep (And.intro (K9.out.1.step hb2) (And.intro (show KB w2 w.heap.size ⟨xk, xf, xa, xb, xo, xs, xp, (x1, x2, x3), (x4, x5, x6), (x7, x8, x9), (x10, x11, x12), (x13, x14, x15), xps, xbs⟩ from (Below.block hb2 w.heap.size K9.out.2.1.lt).trans K9.out.2.1) (K9.out.2.2.trans (Later.below hb2))))
           clear hb2))
      obtain ⟨p9, hp9, hf9⟩ := F1.out.2 hT1
      have JD := KA.out.1.step (Below.refl _ w2).drew
      have LK := (rel_map JD _ rfl rfl).2 am HA0.out.1 HA0.out.2
      rw [pgV_some hp9] at LK
      dsimp only [Option.getD] at LK
      have C0 := JD.c0
      have PF := (JD.pa.op _ _ hp9).2.1.at_.2.1
      rw [hf9] at PF
      rw [eb.out] at C0
      rw [ek.out] at C0 LK
      have A2 := (show KB w2.drew w.heap.size ⟨xk, xf, xa, xb, xo, xs, xp, (x1, x2, x3), (x4, x5, x6), (x7, x8, x9), (x10, x11, x12), (x13, x14, x15), xps, xbs⟩ from KA.out.2.1).at_.2.2.1
      try dsimp only at A2
      have KAd := keep (And.intro (KA.out.1.step (Below.refl _ w2).drew) (And.intro (show KB w2.drew w.heap.size ⟨xk, xf, xa, xb, xo, xs, xp, (x1, x2, x3), (x4, x5, x6), (x7, x8, x9), (x10, x11, x12), (x13, x14, x15), xps, xbs⟩ from (Below.block (Below.refl _ w2).drew w.heap.size KA.out.2.1.lt).trans KA.out.2.1) (KA.out.2.2.trans (Later.below (Below.refl _ w2).drew))))
      clear JD
      go_region_held3 (fun w' => w'.cell? ⟨b, 0, none⟩ = some (.map (some k)) ∧ w'.cell? ⟨w.heap.size, 2, none⟩ = some (.int .u32 xa) ∧ (Instr.lookup 123 (.map (some k)) (.int .u32 am) false).run Tryz.prog w' = .ok (.pointer (some ⟨p9, 0, none⟩)) w' ∧ w'.cell? ⟨p9, 12, none⟩ = some (.int .u32 fa))
        (first | exact ⟨C0, A2, LK, PF⟩) (first | fail)
      clear C0 A2 LK PF hp9 hf9
      generalize w2.drew = w2e at KAd ⊢
      have KX := KAd
      have TR := together_any KAd.out.1 HKN.out.1 (n := xa) HXA.out.1 HXA.out.2
      rw [eb.out, hT2] at TR
      replace TR := keep TR
      have t2 := KAd.out.2.1.at_.2.2.1
      try dsimp only at t2
      go_wp2_with (first
        | (go_at_call 136; refine TR.out.mono ?_; rintro e w3 ⟨rfl, hb3⟩
           have KB3 := keep (And.intro (KX.out.1.step hb3) (And.intro (show KB w3 w.heap.size ⟨xk, xf, xa, xb, xo, xs, xp, (x1, x2, x3), (x4, x5, x6), (x7, x8, x9), (x10, x11, x12), (x13, x14, x15), xps, xbs⟩ from (Below.block hb3 w.heap.size KX.out.2.1.lt).trans KX.out.2.1) (KX.out.2.2.trans (Later.below hb3))))
           clear hb3 t2
           have t3 := KB3.out.2.1.at_.2.2.1
           try dsimp only at t3))
      clear t3
      obtain ⟨p9, hp9, hf9⟩ := F2.out.2 hT2
      have JD := KB3.out.1.step (Below.refl _ w3).drew
      have LK := (rel_map JD _ rfl rfl).2 au HU0.out.1 HU0.out.2
      rw [pgV_some hp9] at LK
      dsimp only [Option.getD] at LK
      have C0 := JD.c0
      have PF := (JD.pa.op _ _ hp9).2.1.at_.2.1
      rw [hf9] at PF
      rw [eb.out] at C0
      rw [ek.out] at C0 LK
      have A2 := (show KB w3.drew w.heap.size ⟨xk, xf, xa, xb, xo, xs, xp, (x1, x2, x3), (x4, x5, x6), (x7, x8, x9), (x10, x11, x12), (x13, x14, x15), xps, xbs⟩ from KB3.out.2.1).at_.2.2.1
      try dsimp only at A2
      have KB3d := keep (And.intro (KB3.out.1.step (Below.refl _ w3).drew) (And.intro (show KB w3.drew w.heap.size ⟨xk, xf, xa, xb, xo, xs, xp, (x1, x2, x3), (x4, x5, x6), (x7, x8, x9), (x10, x11, x12), (x13, x14, x15), xps, xbs⟩ from (Below.block (Below.refl _ w3).drew w.heap.size KB3.out.2.1.lt).trans KB3.out.2.1) (KB3.out.2.2.trans (Later.below (Below.refl _ w3).drew))))
      clear JD
      go_region_held3 (fun w' => w'.cell? ⟨b, 0, none⟩ = some (.map (some k)) ∧ w'.cell? ⟨w.heap.size, 2, none⟩ = some (.int .u32 xa) ∧ (Instr.lookup 123 (.map (some k)) (.int .u32 au) false).run Tryz.prog w' = .ok (.pointer (some ⟨p9, 0, none⟩)) w' ∧ w'.cell? ⟨p9, 12, none⟩ = some (.int .u32 la))
        (first | exact ⟨C0, A2, LK, PF⟩) (first | fail)
      clear C0 A2 LK PF hp9 hf9
      generalize w3.drew = w3e at KB3d ⊢
      have BD := bind_any KB3d.out.1 HAR.out HZR.out HPA.out HPZ.out
      rw [eb.out] at BD
      replace BD := keep BD
      go_wp2_with (first
        | (go_at_call 137; refine BD.out.mono ?_; rintro e w4 ⟨rfl, hj4⟩; replace hj4 := keep hj4))
      go_ret2
      have hJ := hj4.out.1
      rw [← HOO.out] at hJ
      refine ⟨by rw [HFA.out, HLA.out] <;> rfl, Exists.intro _ (And.intro hJ ?_)⟩
      exact And.intro hEN.out (KB3d.out.2.2.trans ⟨eb.out.symm, rfl, rfl, rfl, rfl, hj4.out.2, fun i hi => .inl hi, fun i hi => .inl hi⟩)
end
section
open Go.RowKit Go.Maps
theorem chunk_info9 : (Tryz.prog.info? 41).map (fun i => (i.zero, i.size, i.bytes)) = some (some (.agg #[.int .u8 0, .int .u8 0, .int .u32 0, .int .u32 0, .int .u16 0, .int .u16 0, .int .u32 0, .slice none 0 0, .slice none 0 0, .slice none 0 0, .slice none 0 0, .slice none 0 0]), 12, 144) := by kernel_rfl
structure PK (w : World) (F : Nat → Prop) (x : CX) : Prop where
  cv : CV w x
  pr : x.pr = (none, 0, 0)
  ps : x.ps = []
  da : InF_jo F x.da.1
theorem PK.kept {S : Nat → Prop} {w w' : World} {F : Nat → Prop} {x : CX} (h : PK w F x) (hp : Part S w w') (hF : ∀ i, F i → ¬ S i) : PK w' F x := by
  refine ⟨⟨h.cv.kd, h.cv.fl, h.cv.a, h.cv.b, h.cv.ou, h.cv.si, h.cv.pp, ?_, hp.bs hF h.cv.bs h.da⟩, h.pr, h.ps, h.da⟩
  rw [h.pr, h.ps]
  exact PR.nil _
theorem filter_len {l : List Ch} (hk : KeysC l) {n : Int} : (∃ x ∈ l, x.a = n) → (l.filter fun x => decide (x.a ≠ n)).length + 1 = l.length := by
  induction l with
  | nil => rintro ⟨_, h, _⟩; cases h
  | cons y r ih =>
    obtain ⟨h1, h2⟩ := List.pairwise_cons.1 hk
    rintro ⟨x, hx, e⟩
    by_cases hy : y.a = n
    · rw [List.filter_cons_of_neg (by simpa using hy), List.filter_eq_self.2 fun z hz => by simpa using fun e' => h1 z hz (hy.trans e'.symm)]
      rfl
    · rw [List.filter_cons_of_pos (by simpa using hy)]
      rcases List.mem_cons.1 hx with rfl | hx
      · exact absurd e hy
      · simp only [List.length_cons]
        have := ih h2 ⟨x, hx, e⟩
        omega
theorem without_next {s l : List Ch} {t : Nat} {x : Ch} (hx : s[t]? = some x) : (without (s.take t) l).filter (fun y => decide (y.a ≠ x.a)) = without (s.take (t + 1)) l := by
  unfold without
  rw [List.filter_filter, List.take_add_one, hx]
  refine List.filter_congr fun y _ => ?_
  rw [List.any_append]
  by_cases e : x.a = y.a
  · simp [e]
  · have e' : ¬ y.a = x.a := fun h => e h.symm
    simp [e, e']
theorem without_zero (l : List Ch) : without ([] : List Ch) l = l := by
  unfold without
  rw [List.filter_eq_self]
  intro x _
  rfl
structure WR (w : World) (G : Gh) (j : Jn) (o : Int) (s : List Ch) (t : Nat) (A : Option Addr) (c : Nat) (Gt : Gh) (lst : List CX) (wr : World) : Prop where
  ja : JA wr Gt { j with ch := without (s.take t) j.ch } o
  la : Later w G wr Gt
  oo : Gt.O = G.O
  ff : Gt.F = G.F
  fr : Gt.far = G.far
  row : wr.ownsRow (w.heap.size + 1) 41 12 (.slice A t c) t (flatF CX.cells lst)
  vs : ∀ x ∈ lst, PK wr G.F x
  is : lst.map CX.ch = s.take t
  r : MB wr w.heap.size MX.zero
theorem WR.next {w : World} {G : Gh} {j : Jn} {o : Int} {s : List Ch} {t : Nat} {A : Option Addr} {c : Nat} {Gt : Gh} {lst : List CX} {wr : World} (h : WR w G j o s t A c Gt lst wr) (hk : KeysC j.ch) (hnd : s.Pairwise fun x y => x.a ≠ y.a) (hs : ∀ x ∈ s, x ∈ j.ch) {x : Ch} (hx : s[t]? = some x) :
    ∃ p, Gt.pb x.a = some p ∧ (Gt.pc x.a).ch = x ∧ At12 wr p 0 (Gt.pc x.a) ∧ PK wr G.F (Gt.pc x.a) ∧ p < wr.heap.size := by
  have hm : x ∈ without (s.take t) j.ch := mem_without.2 ⟨hs x (List.mem_of_getElem? hx), fun y hy e => by
    obtain ⟨i, hi⟩ := List.mem_iff_getElem?.1 hy
    have hil := (List.getElem?_eq_some_iff.1 hi).1
    rw [List.length_take] at hil
    rw [List.getElem?_take_of_lt (by omega)] at hi
    have h1 := List.pairwise_iff_getElem.1 hnd i t (List.getElem?_eq_some_iff.1 hi).1 (List.getElem?_eq_some_iff.1 hx).1 (by omega)
    rw [(List.getElem?_eq_some_iff.1 hi).2, (List.getElem?_eq_some_iff.1 hx).2] at h1
    exact h1 e⟩
  obtain ⟨p, hp, hc⟩ := h.ja.pa.has x hm
  obtain ⟨_, hP, _⟩ := h.ja.pa.op _ _ hp
  refine ⟨p, hp, hc, hP.at_.1, ⟨hP.cv, hP.pr, hP.ps, by rw [← h.ff]; exact hP.da⟩, (Array.getElem?_eq_some_iff.1 hP.blk).1⟩
theorem WR.app {w : World} {G : Gh} {j : Jn} {o : Int} {s : List Ch} {t : Nat} {A : Option Addr} {c : Nat} {Gt : Gh} {lst : List CX} {wr : World} (h : WR w G j o s t A c Gt lst wr) (hO : ∀ i, G.O i → i < w.heap.size) (hF : ∀ i, G.F i → i < w.heap.size)
    {tmp : Array Value} {ty : TypeId} {w3 : World} (hg : (wr.alloc (.cells tmp ty)).grownBy w3 (Value.slice A t c).ownBlock) :
    JA w3 Gt { j with ch := without (s.take t) j.ch } o ∧ Part (fun i => w.heap.size < i) wr w3 ∧ (∀ x, PK wr G.F x → PK w3 G.F x) ∧ MB w3 w.heap.size MX.zero := by
  have hrow : ∀ g, (Value.slice A t c).ownBlock = some g → w.heap.size < g := fun g e => (h.row.lt g e).1
  have hp : Part (fun i => w.heap.size < i) wr w3 := (Part.of_below (fun i => w.heap.size < i) (below_lay wr (.cells tmp ty))).trans (Part.of_grown (S := fun i => w.heap.size < i) hg hrow) fun i hi => .inl hi
  refine ⟨h.ja.apart hp (fun i hi hc => ?_) (fun i hi hc => ?_), hp, fun x hx => hx.kept hp fun i hi hc => ?_, (hp.block _ h.r.lt (Nat.lt_irrefl _)).trans h.r⟩
  · rw [h.oo] at hi
    have := hO i hi
    omega
  · rw [h.ff] at hi
    have := hF i hi
    omega
  · have := hF i hi
    omega
theorem WR.del {w : World} {G : Gh} {j : Jn} {o : Int} {s : List Ch} {t : Nat} {A : Option Addr} {c : Nat} {Gt : Gh} {lst : List CX} {wr : World} (h : WR w G j o s t A c Gt lst wr) (hk : KeysC j.ch) (hO : ∀ i, G.O i → i < w.heap.size) (hF : ∀ i, G.F i → i < w.heap.size) (hd : ∀ i, G.O i → ¬ G.F i)
    {x : Ch} (hx : s[t]? = some x) {p : Nat} (hp : Gt.pb x.a = some p) (hpc : (Gt.pc x.a).ch = x) (hpk : PK wr G.F (Gt.pc x.a)) {tmp : Array Value} {ty : TypeId} {w3 w4 : World} (hg : (wr.alloc (.cells tmp ty)).grownBy w3 (Value.slice A t c).ownBlock) {A' : Option Addr} {c' : Nat}
    (ho : w3.ownsRow (w.heap.size + 1) 41 12 (.slice A' (t + 1) c') (t + 1) (flatF CX.cells lst ++ (Gt.pc x.a).cells))
    (hm : MapV w4 22 .u32 Gt.k ((without (s.take t) j.ch).length - if (pgV Gt.pb x.a).isSome = true then 1 else 0) (delV (pgV Gt.pb) x.a)) (hg4 : w3.grownBy w4 (some Gt.k)) :
    WR w G j o s (t + 1) A' c' { Gt with pb := fun y => if y = x.a then none else Gt.pb y } (lst ++ [Gt.pc x.a]) w4 := by
  obtain ⟨J3, P3, K3, R3⟩ := h.app hO hF hg
  have hsome : (pgV Gt.pb x.a).isSome = true := by rw [pgV_some hp]; rfl
  have hkt : KeysC (without (s.take t) j.ch) := by unfold without; exact hk.filter _
  have hxm : x ∈ without (s.take t) j.ch := by
    have := (h.ja.pa.op _ _ hp).2.2.1
    rw [hpc] at this
    exact this
  have hD := J3.delPiece (n := x.a) (l := without (s.take (t + 1)) j.ch) (fun y => by
      rw [← without_next hx]
      show y ∈ (without (s.take t) j.ch).filter _ ↔ y ∈ without (s.take t) j.ch ∧ y.a ≠ x.a
      rw [List.mem_filter]
      simp) (by
      show (without (s.take (t + 1)) j.ch).length = (without (s.take t) j.ch).length - _
      rw [← without_next hx, hsome, if_pos rfl]
      have := filter_len hkt (n := x.a) ⟨x, hxm, rfl⟩
      omega) hm hg4
  have hko : G.O Gt.k := by rw [← h.oo]; exact h.ja.pa.ok
  have hkl := hO _ hko
  have hFk : ∀ i, G.F i → ¬ i = Gt.k := fun i hi e => hd _ hko (by rw [← e]; exact hi)
  refine ⟨hD.1, ?_, h.oo, h.ff, h.fr, ?_, fun y hy => ?_, ?_, (hD.2.block _ R3.lt (fun e => by omega)).trans R3⟩
  · have hl := h.la
    refine ⟨hl.b, hl.k, hl.sb, hl.n, hl.wm, ?_, fun i hi => hl.o i hi, fun i hi => hl.f i hi⟩
    exact (hl.part.trans (S' := fun i => w.heap.size < i) P3 fun i hi => .inr (Nat.le_of_lt hi)).trans hD.2 fun i hi => .inl (by rw [hi]; exact hko)
  · rw [flatF_append, show flatF CX.cells [Gt.pc x.a] = (Gt.pc x.a).cells by simp [flatF]]
    exact hD.2.own ho fun g e e' => by
      have := (ho.lt g e).1
      omega
  · refine PK.kept ?_ hD.2 hFk
    rcases List.mem_append.1 hy with hy | hy
    · exact K3 y (h.vs y hy)
    · rw [List.mem_singleton.1 hy]
      exact K3 _ hpk
  · rw [List.map_append, h.is, List.take_add_one, hx]
    show s.take t ++ [(Gt.pc x.a).ch] = _
    rw [hpc]
    rfl
end
end Go.Proofs.YtnlkdlnmffibhaaGreat
