/- SendqNone: chunks that are handed in, or told, are not changed by each other. -/
import Derived.Test.YtbkepkiaabeliaaQ38
import Derived.Test.YtbkepkiaabeliaaQ39
namespace Go.Proofs.Ytbkepkiaabeliaa
open Go.RowKit Go.Maps
set_option linter.unusedVariables false

theorem no_need {p : Prop} (h : p) : ∃ u : Unit, True := ⟨(), trivial⟩
/-- A piece, and the row with its octets. -/
def OneRow (w : World) (g n : Nat) : Prop := w.heap[g]? = some (.cells (List.replicate n (Value.int .u8 0)).toArray 5 (0, 0))
set_option maxRecDepth 100000 in
set_option maxHeartbeats 1000000 in
theorem piece_row (n : Nat) (hn : n ≤ 1000000) (w : World) : Calls Try.prog 29 #[.int .i64 n] w fun e w' => e = .returned (.agg (pz n (w.heap.size + 1)).cells.toArray) ∧ OneRow w' (w.heap.size + 1) n ∧ Below w.heap.size w w' := by
  obtain ⟨i0, hi0, hz0, hz1, hz2⟩ := info_parts by_info
  have L0 := keep (below_lay w (.cells zZero.cells.toArray 51))
  have HZ := keep (show ZB (w.alloc (.cells zZero.cells.toArray 51)) w.heap.size zZero from heap_alloc_new w _)
  have s1 : (w.alloc (.cells zZero.cells.toArray 51)).heap.size = w.heap.size + 1 := by simp
  have S1 := keep s1
  clear s1
  dsimp only [zZero, CZ.cells] at L0 HZ S1
  go_enter Try.func29, Try.ntmps29
  go_wp2_with (at_make; refine wpl_make rfl _ _ 49 rfl 5 i0 (.int .u8 0) Try.underlying49 hi0 hz0 hz1 rfl n _ rfl rfl rfl (by rw [hz2]; omega) (by unfold maxLen; omega) ?_
               intro w2 hg2 hb2 hs2
               have HB2 := keep hb2
               have HS2 := keep hs2
               have HZ2 := keep (ZB.step HZ.out hb2)
               obtain ⟨⟨f0, f1, f2, f3, f4, f5⟩, f6, f7, f8, f9, f10, f11⟩ := HZ2.out.fz12
               obtain ⟨⟨z0, z1, z2, z3, z4, z5, z6⟩, z7, z8, z9, z10, z11⟩ := HZ2.out.all
               dsimp only at z0 z1 z2 z3 z4 z5 z6 z7 z8 z9 z10 z11
               clear hb2 hs2)
  have hzb := ZB.laid (cs := _) rfl HZ2.out (pz n (w.heap.size + 1))
  have hpt := ZB.part w2 w.heap.size (pz n (w.heap.size + 1))
  have hun := ZB.under (L0.out.trans (HB2.out.mono L0.out.size)) (Nat.le_refl _) (pz n (w.heap.size + 1))
  have hgg := hg2.out
  have hss := HS2.out
  rw [S1.out] at hgg hss
  have hrow := (hpt.block _ hss (by omega)).trans hgg
  exact bodyPost_ret (ret_zchunk rfl _ _ w.heap.size (pz n (w.heap.size + 1)) rfl hzb) rfl ⟨rfl, hrow, hun⟩
/-- One piece is pushed; what of the heap is the queue's then. -/
theorem sn_push {w W W2 : World} {b : Nat} {G : Gq} {q : Qm} {n : Nat} (h : QS w b G q W) (hz : ZV W2 (pz n (W.heap.size + 1))) (hb : Below W.heap.size W W2) (hn0 : 0 < n) (hn : n ≤ 1000000) (hf : q.es.length < 1024) :
    Calls Try.prog 18 #[.pointer (some ⟨b, 0, none⟩), .slice (some ⟨W2.heap.size, 0, none⟩) 1 1, .int .i64 (-1), .int .i64 (-1)] (W2.alloc (.cells (pz n (W.heap.size + 1)).cells.toArray 51)) fun e w' => e = .returned (.int .i64 0) ∧
      ∃ G' x m, Hid (QS w b G' (pushQ q [x] m (-1) (-1)) w' ∧ (lenE x = n ∧ x.st = 0 ∧ x.c.bs = List.replicate n 0) ∧ Ltr (W2.alloc (.cells (pz n (W.heap.size + 1)).cells.toArray 51)) G w' G') := by
  have hb5 := below_lay W2 (.cells (pz n (W.heap.size + 1)).cells.toArray 51)
  have hq5 := h.step (up hb hb5)
  have hfl : flatF CZ.cells [pz n (W.heap.size + 1)] = (pz n (W.heap.size + 1)).cells := by simp [flatF]
  have hzs := zs_row (l := [pz n (W.heap.size + 1)]) (w := W2.alloc (.cells (pz n (W.heap.size + 1)).cells.toArray 51)) (g := W2.heap.size) (by rw [hfl]; exact heap_alloc_new W2 _) (fun x hx => by
    rw [List.mem_singleton.1 hx]
    exact hz.step hb5)
  refine (Push_qs hq5 hzs (show (1 : Nat) ≤ 1000000 by decide) (fun x hx => ?_) (fun a ea => ?_) (fun x hx A hA => ?_) (-1) (-1) ?_ (show ¬ 1024 < q.es.length + 1 by omega)).mono ?_
  · rw [List.mem_singleton.1 hx]
    exact pz_sm hn
  · injection ea with ea
    rw [← ea]
    intro ho
    have h1 := h.qa.olt _ ho
    have h2 := hb.size
    dsimp only at h1
    omega
  · rw [List.mem_singleton.1 hx] at hA
    intro a ea ho
    have h1 := pz_ads (N := W.heap.size + 1) (Nat.le_refl _) A hA a ea
    have h2 := h.qa.olt _ ho
    omega
  · rintro (h1 | h1)
    · cases h1
    · rw [List.any_cons, unfit_pz hn0] at h1
      cases h1
  · rintro e w' ⟨rfl, G', new, m, hh⟩
    obtain ⟨x, rfl⟩ : ∃ x, new = [x] := List.length_eq_one_iff.1 hh.out.2.1.len
    obtain ⟨g1, g2, g3, g4, g5, g6, g7⟩ := hh.out.2.1.all 0 _ _ rfl rfl
    exact ⟨rfl, G', x, m, keep ⟨hh.out.1, ⟨g2, g4, congrArg Ct.bs g1⟩, hh.out.2.2⟩⟩
/-- A queue with one entry of one octet, which is 0. -/
structure OneQ (w : World) (b : Nat) (s : Int → Prop) (G : Gq) (q : Qm) (W : World) : Prop where
  qs : QS w b G q W
  one : ∃ e, q.es = [e] ∧ s e.st ∧ lenE e = 1 ∧ e.c.bs = [0]
theorem OneQ.step {w W W' : World} {b : Nat} {s : Int → Prop} {G : Gq} {q : Qm} (h : OneQ w b s G q W) (hb : Below W.heap.size W W') : OneQ w b s G q W' := ⟨h.qs.step hb, h.one⟩
/-- What lies in the told slice: one chunk of one octet. -/
structure OneT (gx gy : Nat) (v : Int) (W : World) : Prop where
  hd : ∃ cy : Nat, W.cell? ⟨gx, 11, none⟩ = some (.slice (some ⟨gy, 0, none⟩) 1 cy)
  by_ : W.cell? ⟨gy, 0, none⟩ = some (.int .u8 v)
  fz : W.frozen? ⟨gy, 0, none⟩ = false
theorem one_take {w W : World} {b : Nat} {G : Gq} {q : Qm} (h : OneQ w b (fun x => x = 0 ∨ x = 2) G q W) :
    Calls Try.prog 19 #[.pointer (some ⟨b, 0, none⟩), .int .i64 0, .int .i64 10] W fun e w' => ∃ gx cx gy q', e = .returned (.slice (some ⟨gx, 0, none⟩) 1 cx) ∧ Hid (OneQ w b (fun x => x = 1) G q' w' ∧ OneT gx gy 0 w' ∧ w.heap.size ≤ gy ∧ ¬ G.O gy ∧ ¬ G.F gy) := by
  obtain ⟨e, he, hst, hln, hbs⟩ := h.one
  have hT := take_all (q := q) (now := 0) (room := 10) (by
    rw [he]
    rcases hst with hst | hst
    · exact .inl fun x hx => by rw [List.mem_singleton.1 hx]; exact hst
    · exact .inr fun x hx => by rw [List.mem_singleton.1 hx]; exact hst) (by rw [he]; simp [hln])
  rw [he] at hT
  refine (Take_qs h.qs 0 10 (by decide)).mono ?_
  rintro e' w' ⟨⟨s1, s2, s3⟩, ys, rfl, hh⟩
  obtain ⟨ht, hq2⟩ := hh.out
  have hrow := ht.row
  have hct := ht.ct
  have hdl := ht.dl
  rw [hT] at hct hdl
  have hyl : ys.length = 1 := by have := congrArg List.length hct; simpa using this
  obtain ⟨y, rfl⟩ := List.length_eq_one_iff.1 hyl
  have hs2 : s2 = 1 := by
    have h3 := hrow.1
    rw [flatF_len CZ.len] at h3
    dsimp only at h3
    simp at h3
    omega
  subst hs2
  obtain ⟨gx, hg, _, hcx, _⟩ := own_row_at hrow (by simp [flatF, CZ.cells])
  dsimp only at hg
  subst hg
  simp only [List.map_cons, List.map_nil, List.cons.injEq, and_true] at hct hdl
  have hybs : y.bs = [0] := (congrArg Ct.bs hct).trans hbs
  have hydl : y.da.2.1 = 1 := hdl.trans hln
  obtain ⟨_, _, hyo⟩ := ht.zs y (List.mem_singleton.2 rfl)
  rw [hydl, hybs] at hyo
  obtain ⟨gy, hgy, hlo, hcy, hfy, _⟩ := own_row_at hyo (by simp [bc])
  refine ⟨gx, s3, gy, _, rfl, keep ⟨⟨hq2, ⟨sendE 0 e, ?_, rfl, hln, hbs⟩⟩, ⟨⟨y.da.2.2, ?_⟩, hcy 0 _ rfl, hfy 0⟩, Nat.le_trans h.qs.bl.size hlo, fun hc => ?_, fun hc => ?_⟩⟩
  · unfold tkQ
    rw [hT]
    rfl
  · have := hcx 11 (.slice y.da.1 y.da.2.1 y.da.2.2) (by simp [flatF, CZ.cells])
    rw [hydl, hgy] at this
    exact this
  · have := h.qs.qa.olt _ hc
    omega
  · have := h.qs.qa.flt _ hc
    omega
/-- What is read of it. -/
structure OneR (gx gy : Nat) (v : Int) (W : World) : Prop where
  hd : ∃ cy : Nat, W.cell? ⟨gx, 11, none⟩ = some (.slice (some ⟨gy, 0, none⟩) 1 cy)
  by_ : W.cell? ⟨gy, 0, none⟩ = some (.int .u8 v)
theorem OneR.step {gx gy : Nat} {v : Int} {W W' : World} (h : OneR gx gy v W) (hb : Below W.heap.size W W') : OneR gx gy v W' := by
  have k := Kpt.of_below (ok := fun _ => True) hb
  obtain ⟨cy, h1⟩ := h.hd
  exact ⟨⟨cy, k.cell trivial h1⟩, k.cell trivial h.by_⟩
theorem one_tout {w W : World} {b : Nat} {G : Gq} {q : Qm} (h : OneQ w b (fun x => x = 1) G q W) :
    Calls Try.prog 24 #[.pointer (some ⟨b, 0, none⟩)] W fun e w' => (∃ z, e = .returned (.int .i64 z)) ∧ ∃ q', Hid (OneQ w b (fun x => x = 0 ∨ x = 2) G q' w') := by
  obtain ⟨e, he, hst, hln, hbs⟩ := h.one
  refine (Timeout_qs h.qs).mono ?_
  rintro e' w' ⟨rfl, hh⟩
  refine ⟨⟨_, rfl⟩, _, keep ⟨hh.out.1, ⟨{ e with st := 2 }, ?_, .inr rfl, hln, hbs⟩⟩⟩
  show q.es.map toutE = _
  rw [he]
  show [toutE e] = _
  unfold toutE
  rw [if_pos hst]
/-- An octet that is not the queue's is written. -/
theorem OneQ.other {w W : World} {b g : Nat} {s : Int → Prop} {G : Gq} {q : Qm} (h : OneQ w b s G q W) (hg : w.heap.size ≤ g) (ho : ¬ G.O g) (hf : ¬ G.F g) (v : Value) : OneQ w b s G q (W.setCell ⟨g, 0, none⟩ v) := ⟨h.qs.apart hg ho hf (part_set W g 0 v), h.one⟩
theorem piece_one (w : World) : Calls Try.prog 29 #[.int .i64 1] w fun e w' => e = .returned (.agg #[.int .u8 0, .int .u8 3, .int .u32 0, .int .u32 0, .int .u16 0, .int .u16 0, .int .u32 0, .slice none 0 0, .slice none 0 0, .slice none 0 0, .slice none 0 0, .slice (some ⟨w.heap.size + 1, 0, none⟩) 1 1]) ∧ Hid (OneRow w' (w.heap.size + 1) 1 ∧ Below w.heap.size w w') := by
  refine (piece_row 1 (by decide) w).mono ?_
  rintro e w' ⟨rfl, h1, h2⟩
  exact ⟨rfl, keep ⟨h1, h2⟩⟩
/-- The piece in its box, and pushed. -/
theorem sn_push1 {w W W1 : World} {b : Nat} {G : Gq} {q : Qm} (h : QS w b G q W) (hz : OneRow W1 (W.heap.size + 1) 1) (hb : Below W.heap.size W W1) (hf : q.es = []) (hF : ∀ i, ¬ G.F i) :
    Calls Try.prog 18 #[.pointer (some ⟨b, 0, none⟩), .slice (some ⟨W1.heap.size + 1, 0, none⟩) 1 1, .int .i64 (-1), .int .i64 (-1)] ((W1.alloc (.cells #[.int .u8 0, .int .u8 3, .int .u32 0, .int .u32 0, .int .u16 0, .int .u16 0, .int .u32 0, .slice none 0 0, .slice none 0 0, .slice none 0 0, .slice none 0 0, .slice (some ⟨W.heap.size + 1, 0, none⟩) 1 1] 51)).alloc (.cells #[.int .u8 0, .int .u8 3, .int .u32 0, .int .u32 0, .int .u16 0, .int .u16 0, .int .u32 0, .slice none 0 0, .slice none 0 0, .slice none 0 0, .slice none 0 0, .slice (some ⟨W.heap.size + 1, 0, none⟩) 1 1] 51)) fun e w' => e = .returned (.int .i64 0) ∧
      ∃ G' q', Hid (OneQ w b (fun x => x = 0 ∨ x = 2) G' q' w' ∧ ¬ G'.O (W.heap.size + 1) ∧ ¬ G'.F (W.heap.size + 1)) ∧ w'.cell? ⟨W1.heap.size, 11, none⟩ = some (.slice (some ⟨W.heap.size + 1, 0, none⟩) 1 1) ∧ w'.cell? ⟨W.heap.size + 1, 0, none⟩ = some (.int .u8 0) ∧ w'.frozen? ⟨W.heap.size + 1, 0, none⟩ = false := by
  have hb5 := below_lay W1 (.cells (pz 1 (W.heap.size + 1)).cells.toArray 51)
  have hW1 : W.heap.size + 1 < W1.heap.size := (Array.getElem?_eq_some_iff.1 hz).1
  have hz5 : OneRow (W1.alloc (.cells (pz 1 (W.heap.size + 1)).cells.toArray 51)) (W.heap.size + 1) 1 := (hb5.block _ hW1).trans hz
  have K := sn_push h (W2 := W1.alloc (.cells (pz 1 (W.heap.size + 1)).cells.toArray 51)) (pz_zv hz5) (up hb hb5) (by decide) (by decide) (by rw [hf]; decide)
  rw [World.size_alloc] at K
  refine K.mono ?_
  rintro e w' ⟨rfl, G', x, m, hh⟩
  obtain ⟨h1, ⟨h2, h3, h4⟩, h5⟩ := hh.out
  have hO : ∀ i, i < W1.heap.size → W.heap.size ≤ i → ¬ G.O i := fun i _ h6 h7 => by have := h.qa.olt i h7; omega
  have hOn : ∀ i, i < W1.heap.size + 1 → W.heap.size ≤ i → ¬ G.O i := fun i _ h6 h7 => by have := h.qa.olt i h7; omega
  have k := Kpt.of_part (ok := fun i => ¬ G.O i) h5.part fun _ h => h
  have hb6 := below_lay (W1.alloc (.cells (pz 1 (W.heap.size + 1)).cells.toArray 51)) (.cells (pz 1 (W.heap.size + 1)).cells.toArray 51)
  have r1 := k.cells _ _ _ _ (hOn (W.heap.size + 1) (by omega) (by omega)) ((hb6.block _ (by rw [World.size_alloc]; omega)).trans hz5)
  have r2 := k.cells W1.heap.size _ _ _ (hOn W1.heap.size (by omega) (by omega)) ((hb6.block _ (by rw [World.size_alloc]; omega)).trans (heap_alloc_new W1 _))
  refine ⟨rfl, G', _, keep ⟨⟨h1, ⟨x, ?_, .inl h3, h2, h4⟩⟩, fun hc => ?_, fun hc => ?_⟩, upd_cell r2 11 _ rfl, upd_cell r1 0 _ rfl, upd_fz r1 0⟩
  · show q.es ++ [x] = [x]
    rw [hf]
    rfl
  · rcases h5.o _ hc with h6 | h6
    · exact hOn (W.heap.size + 1) (by omega) (by omega) h6
    · rw [World.size_alloc, World.size_alloc] at h6
      omega
  · rcases h5.f _ hc with h6 | h6
    · exact hF _ h6
    · rw [World.size_alloc, World.size_alloc] at h6
      omega
set_option maxRecDepth 100000 in
set_option maxHeartbeats 4000000 in
theorem sendqNone_walk (A : Option Addr) (m c : Nat) (u : Unit) (n cum : Int) (w : World) (_ : True) (_ : (Lit.int .i64 n).wf = true) (_ : (Lit.int .u32 cum).wf = true) :
    Calls Try.prog 8 #[.slice A m c, .int .i64 n, .int .u32 cum] w fun e w' => e = .returned (.bool true) ∧ Below w.heap.size w w' := by
  have KA := keep (awake_any w)
  by_cases hbig : 50 < m
  · go_enter Try.func8, Try.ntmps8
    go_wp2_with (go_at_call 10; refine KA.out.mono ?_; rintro e w1 ⟨rfl, hb1⟩; replace hb1 := keep hb1)
    go_ret
    exact ⟨rfl, hb1.out⟩
  · have hm50 : m ≤ 50 := by omega
    have KN := keep (fun W (hb : Below w.heap.size w W) => New_qs (w := w) 1 (by decide) hb)
    have KK := keep (fun W => Ack_nil cum n (none, 0, 0) W)
    go_enter Try.func8, Try.ntmps8
    go_wp2_with (first
      | (go_at_call 10; refine KA.out.mono ?_; rintro e w1 ⟨rfl, hb1⟩; replace hb1 := keep hb1)
      | fail)
    refine (KK.out w1).mono ?_
    rintro e w2 ⟨rfl, hb2⟩
    have HB2 := keep (up (up hb1.out hb2) (below_lay w2 (.cells #[.int .i64 0, .int .i64 0, .bool false, .bool false] 54)))
    clear hb2
    unfold ackNone
    dsimp only
    go_wp2_with (first
      | (go_at_call 30; refine (Forward_nil _).mono ?_; rintro e w3 ⟨rfl, hb3⟩; replace hb3 := keep (up HB2.out hb3))
      | (go_at_call 21; refine (State_nil _ _).mono ?_; rintro e w' ⟨rfl, rfl⟩)
      | (go_at_call 12; refine (KN.out _ hb3.out).mono ?_; rintro e w4 ⟨rfl, hq4⟩)
      | (go_at_call 29; refine (piece_one _).mono ?_; rintro e w5 ⟨rfl, h5⟩
         have KU := keep (sn_push1 hq4.out h5.out.1 h5.out.2 rfl (fun i h => h)))
      | (go_at_call_of 18 (Value.pointer none); refine (Push_nil (A, m, c) _ _ _).mono ?_; rintro e w' ⟨rfl, rfl⟩)
      | (go_at_call 18; refine KU.out.mono ?_; rintro e w6 ⟨rfl, G6, q6, H6, d0, d1, d2⟩
         have H7 := keep (H6.out.1.other (by have := hq4.out.bl.size; omega) H6.out.2.1 H6.out.2.2 (.int .u8 9)))
      | (go_at_call_of 24 (Value.pointer none); refine (Timeout_nil _).mono ?_; rintro e w13 ⟨rfl, hb13⟩; have C13 := keep (And.intro (C12.out.1.step hb13) (up C12.out.2 hb13)))
      | (go_at_call 24; refine (one_tout H9.out).mono ?_; rintro e w10 ⟨⟨z, rfl⟩, q10, H10⟩)
      | (go_at_call_of 19 (Value.pointer none); refine (Take_nil _ _ _).mono ?_; rintro e w12 ⟨rfl, hb12⟩; have C12 := keep (And.intro (C11.out.1.step hb12) (up C11.out.2 hb12)))
      | (go_at_call 19; refine (one_take H10.out).mono ?_; rintro e w11 ⟨gx', cx', gy', q11, rfl, H11⟩
         have C11 := keep (And.intro (show OneR gx' gy' 0 w11 from ⟨H11.out.2.1.hd, H11.out.2.1.by_⟩) H11.out.1.qs.bl))
      | (go_at_call 19; refine (one_take H7.out).mono ?_; rintro e w8 ⟨gx, cx, gy, q8, rfl, H8⟩
         obtain ⟨⟨cy, e0⟩, e1, e2⟩ := H8.out.2.1
         have H9 := keep (H8.out.1.other H8.out.2.2.1 H8.out.2.2.2.1 H8.out.2.2.2.2 (.int .u8 8)))
      | (go_at_call 25; refine (Expire_nil _ _).mono ?_; rintro e w14 ⟨rfl, hb14⟩; have C14 := keep (And.intro (C13.out.1.step hb14) (up C13.out.2 hb14)))
      | (go_at_call 16; refine (Floor_nil _).mono ?_; rintro e w' ⟨rfl, rfl⟩)
      | (go_at_call 31; refine (Next_nil _).mono ?_; rintro e w' ⟨rfl, rfl⟩)
      | (go_at_call 27; refine (Flying_nil _).mono ?_; rintro e w15 ⟨rfl, hb15⟩; have C15 := keep (And.intro (C14.out.1.step hb15) (up C14.out.2 hb15)))
      | (go_at_call 28; refine (Left_nil _).mono ?_; rintro e w16 ⟨rfl, hb16⟩; have C16 := keep (And.intro (C15.out.1.step hb16) (up C15.out.2 hb16))
         obtain ⟨⟨cy', r0⟩, r1⟩ := C16.out.1)
      | (go_at_call 17; refine (Len_nil _).mono ?_; rintro e w' ⟨rfl, rfl⟩))
    go_ret
    exact ⟨rfl, C16.out.2⟩
end Go.Proofs.Ytbkepkiaabeliaa
