/- KBF of the stage: texts Xf2, Xf3, joined. -/
import Derived.Test.YtnlkdlnmffibhaaGreatKBE
import Derived.Deep.MidRow
import Derived.Deep.RegionHeld3
import Derived.Deep.RegionLaw
set_option linter.unusedSimpArgs false
set_option linter.unusedVariables false
set_option maxRecDepth 8000
namespace Go.Proofs.YtnlkdlnmffibhaaGreat
open List renaming setIfInBounds_toArray → lA, set_cons_zero → lZ, set_cons_succ → lS
open Go renaming wpAnyH_take → wT
open Go.Act renaming put → aP
section
open Go.RowKit Go.Maps
theorem op_make {P : Program} {o : Oper} {a : Act} {w : World} {K : Act → World → Prop} {Q : Exit → Act → World → Prop} (l c : Operand) (t : TypeId) (hop : o.op = Op.makeSlice t l c) (e : TypeId) (i : TypeInfo) (z : Value) (ht : P.underlying t = some (.slice e)) (hi : P.info? e = some i) (hz : i.zero = some z) (hs : i.size = 1)
    (hz1 : z.cells = #[z]) (n : Nat) (L : Int) (hl : a.eval l = .int .i64 L) (hc : a.eval c = .int .i64 L) (hL : L = (n : Int)) (hb : i.bytes * n ≤ 281474976710656) (h63 : n ≤ maxLen)
    (h : ∀ w', w'.heap[w.heap.size]? = some (.cells (List.replicate n z).toArray e (0, 0)) → Below w.heap.size w w' → w.heap.size < w'.heap.size → K (a.put o.dst (.slice (some ⟨w.heap.size, 0, none⟩) n n)) w') :
    o.wp P a w K Q := by
  subst hL
  have h63' : (n : Int) ≤ 9223372036854775807 := by simp only [maxLen] at h63; omega
  have hb' : (i.bytes : Int) * (n : Int) ≤ 281474976710656 := by
    have h : ((i.bytes * n : Nat) : Int) ≤ 281474976710656 := by omega
    rwa [Int.natCast_mul] at h
  have hr := run_make (P := P) w t e i z ht hi hz .i64 .i64 n n (by omega) (by omega) hb' h63'
  simp only [Int.toNat_natCast, hs, Nat.mul_one, cells_made z hz1] at hr
  unfold Oper.wp
  simp [execOp, hop, hl, hc, hr, Result.andThen]
  exact h _ (show _ = _ from heap_alloc_new w _) ((Below.refl _ _).alloc (Nat.le_refl _) _) (by simp)
theorem step_make {P : Program} {ops : Array Oper} {o : Oper} {a : Act} {w : World} {K : Act → World → Prop} {Q : Exit → Act → World → Prop} {E : Prop} (hgd : o.guard = none) (l c : Operand) (t : TypeId) (hop : o.op = Op.makeSlice t l c) (e : TypeId) (i : TypeInfo) (z : Value) (ht : P.underlying t = some (.slice e)) (hi : P.info? e = some i) (hz : i.zero = some z) (hs : i.size = 1)
    (hz1 : z.cells = #[z]) (n : Nat) (L : Int) (hl : a.eval l = .int .i64 L) (hc : a.eval c = .int .i64 L) (hL : L = (n : Int)) (hb : i.bytes * n ≤ 281474976710656) (h63 : n ≤ maxLen)
    (h : ∀ w', w'.heap[w.heap.size]? = some (.cells (List.replicate n z).toArray e (0, 0)) → Below w.heap.size w w' → K (a.put o.dst (.slice (some ⟨w.heap.size, 0, none⟩) n n)) w') : if Region.wanted o (yielded ops a.tmps) = true then Oper.wp P o a w K Q else E := by
  rw [if_pos (by simp [Region.wanted, hgd])]
  exact op_make l c t hop e i z ht hi hz hs hz1 n L hl hc hL hb h63 fun w' h1 h2 _ => h w' h1 h2
theorem step_store {P : Program} {ops : Array Oper} {o : Oper} {a : Act} {w : World} {K : Act → World → Prop} {Q : Exit → Act → World → Prop} {E : Prop} (hgd : o.guard = none) (ty : TypeId) (x y : Operand) (ho : o.op = .store ty x y)
    (b k : Nat) (cells : Array Value) (hx : a.eval x = .pointer (some ⟨b, k, none⟩)) (hy : a.eval y = .agg cells)
    (ht : w.there b k cells.size) (hi : (P.info? ty).map (·.size) = some cells.size) (h1 : cells.all (·.oneCell') = true)
    (h : K (a.put o.dst undef) (w.setCells b k cells.toList)) : if Region.wanted o (yielded ops a.tmps) = true then Oper.wp P o a w K Q else E := by
  rw [if_pos (by simp [Region.wanted, hgd])]
  exact wp_store_mid ty x y ho b k cells hx hy ht hi h1 h
theorem setCells_whole {b : Nat} {t : TypeId} : ∀ (vs : List Value) (p C : List Value) (w : World), w.heap[b]? = some (.cells (p ++ C).toArray t (0, 0)) → C.length = vs.length → (w.setCells b p.length vs).heap[b]? = some (.cells (p ++ vs).toArray t (0, 0))
  | [], p, C, w, h, hl => by
    obtain rfl := List.length_eq_zero_iff.1 hl
    exact h
  | v :: r, p, [], w, h, hl => by simp at hl
  | v :: r, p, c :: C, w, h, hl => by
    have h1 := heap_setCell_same w b p.length _ _ v h
    have h2 : (p ++ c :: C).toArray.setIfInBounds p.length v = ((p ++ [v]) ++ C).toArray := by simp
    rw [h2] at h1
    have h3 := setCells_whole r (p ++ [v]) C (w.setCell ⟨b, p.length, none⟩ v) h1 (by simpa using hl)
    rw [List.length_append, List.length_singleton] at h3
    show (World.setCells (w.setCell ⟨b, p.length, none⟩ v) b (p.length + 1) r).heap[b]? = _
    rw [h3]
    simp
theorem setCells_part (b : Nat) : ∀ (vs : List Value) (o : Nat) (w : World), Part (fun i => i = b) w (w.setCells b o vs)
  | [], _, w => Part.refl _ w
  | v :: r, o, w => (part_set w b o v).trans (setCells_part b r (o + 1) _) fun i hi => .inl hi
theorem there_of {w : World} {b : Nat} {C : Array Value} {t : TypeId} (h : w.heap[b]? = some (.cells C t (0, 0))) (o n : Nat) (hn : o + n ≤ C.size) : w.there b o n := fun j hj =>
  ⟨by rw [upd_cell h (o + j) C[o + j] (Array.getElem?_eq_getElem (by omega))]; rfl, upd_fz h (o + j)⟩
def cfg (a p r o i m : Int) : Value := .agg #[.int .u32 a, .int .u32 p, .int .u32 r, .int .i64 o, .int .i64 i, .int .i64 m]
structure CfB (w : World) (g : Nat) (a p r o i m : Int) : Prop where
  blk : w.heap[g]? = some (.cells #[.int .u32 a, .int .u32 p, .int .u32 r, .int .i64 o, .int .i64 i, .int .i64 m] 49 (0, 0))
section
variable {w w' : World} {g : Nat} {a p r o i m : Int}
theorem CfB.step (h : CfB w g a p r o i m) (hb : Below w.heap.size w w') : CfB w' g a p r o i m := ⟨(hb.block _ (Array.getElem?_eq_some_iff.1 h.blk).1).trans h.blk⟩
theorem CfB.c0 (h : CfB w g a p r o i m) : w.cell? ⟨g, 0, none⟩ = some (.int .u32 a) := upd_cell h.blk 0 _ rfl
theorem CfB.c1 (h : CfB w g a p r o i m) : w.cell? ⟨g, 1, none⟩ = some (.int .u32 p) := upd_cell h.blk 1 _ rfl
theorem CfB.c2 (h : CfB w g a p r o i m) : w.cell? ⟨g, 2, none⟩ = some (.int .u32 r) := upd_cell h.blk 2 _ rfl
theorem CfB.c3 (h : CfB w g a p r o i m) : w.cell? ⟨g, 3, none⟩ = some (.int .i64 o) := upd_cell h.blk 3 _ rfl
theorem CfB.c4 (h : CfB w g a p r o i m) : w.cell? ⟨g, 4, none⟩ = some (.int .i64 i) := upd_cell h.blk 4 _ rfl
theorem CfB.c5 (h : CfB w g a p r o i m) : w.cell? ⟨g, 5, none⟩ = some (.int .i64 m) := upd_cell h.blk 5 _ rfl
end
theorem Rec_size : (Tryz.prog.info? 70).map (·.size) = some 3 := by kernel_rfl
def RecP (w : World) (p i : Int) (e : Ending) (w' : World) : Prop := ∃ b k J N, e = .returned (.agg #[.pointer (some ⟨b, 0, none⟩), .pointer (some ⟨J.b, 0, none⟩), .bool false]) ∧ SA w' b k (.slice none 0 0) (St.new p) ∧ JG w' J (newJ i) ∧ w.heap.size ≤ b ∧ w.heap.size ≤ k ∧ b < N ∧ k < N ∧ (∀ i, J.O i → N ≤ i) ∧ (∀ i, ¬ J.F i) ∧ w.heap.size ≤ N ∧ Below w.heap.size w w'
set_option maxHeartbeats 4000000 in
theorem newReceiving_any (a p r o i m : Int) (hp : 0 ≤ p ∧ p < 4294967296) (w : World) : Calls Tryz.prog 25 #[cfg a p r o i m] w (RecP w p i) := by
  have KG := keep (fun W => New_any_gp p hp.1 hp.2 W)
  have KJ := keep (fun W => New_any_jo W i)
  have HC := keep (CfB.mk (heap_alloc_new w (.cells #[.int .u32 a, .int .u32 p, .int .u32 r, .int .i64 o, .int .i64 i, .int .i64 m] 49)))
  clear hp
  unfold cfg
  go_enter Tryz.func25, Tryz.ntmps25
  go_wp2_with fail
  have HZ := keep (heap_alloc_new (w.alloc (.cells #[.int .u32 a, .int .u32 p, .int .u32 r, .int .i64 o, .int .i64 i, .int .i64 m] 49)) (.cells #[.pointer none, .pointer none, .bool false] 70))
  have hbA := below_lay w (.cells #[.int .u32 a, .int .u32 p, .int .u32 r, .int .i64 o, .int .i64 i, .int .i64 m] 49)
  have hbB := below_lay (w.alloc (.cells #[.int .u32 a, .int .u32 p, .int .u32 r, .int .i64 o, .int .i64 i, .int .i64 m] 49)) (.cells #[.pointer none, .pointer none, .bool false] 70)
  have HC2 := keep (HC.out.step hbB)
  have HB := keep (up hbA hbB)
  clear HC hbA hbB
  simp only [World.size_alloc] at HZ
  have c1 := HC2.out.c1
  have c4 := HC2.out.c4
  have hz1 : w.heap.size + 1 < ((w.alloc (.cells #[.int .u32 a, .int .u32 p, .int .u32 r, .int .i64 o, .int .i64 i, .int .i64 m] 49)).alloc (.cells #[.pointer none, .pointer none, .bool false] 70)).heap.size := by simp
  have HS := keep hz1
  clear hz1
  generalize World.alloc (World.alloc w _) _ = W0 at HZ HC2 HB c1 c4 HS ⊢
  have HC3 := keep (HC2.out.step (Below.refl _ _).drew)
  have HB3 := keep (HB.out.drew)
  go_region_held3 (fun w' => w'.cell? ⟨w.heap.size, 1, none⟩ = some (.int .u32 p) ∧ w'.cell? ⟨w.heap.size, 4, none⟩ = some (.int .i64 i))
    (first | exact ⟨c1, c4⟩ | exact ⟨e1, e4⟩ | exact ⟨f1, f4⟩ | exact ⟨t1, t4⟩)
    (first
    | (go_at_call 51; refine (KG.out _).mono ?_; rintro e w1 ⟨b, k, rfl, hs1, hb1, hk1, hbe1⟩
       have HC4 := keep (HC3.out.step hbe1)
       have e1 := HC4.out.c1
       have e4 := HC4.out.c4)
    | (go_at_call 52; refine (KJ.out _).mono ?_; rintro e w2 ⟨J, rfl, hj, hbe2, hO, hF⟩
       have f1 := (HC4.out.step hbe2).c1
       have f4 := (HC4.out.step hbe2).c4
       have hsz : W0.heap.size ≤ w1.heap.size := by have := hbe1.size; simpa using this
       have hz2 : w2.heap[w.heap.size + 1]? = some (.cells #[.pointer none, .pointer none, .bool false] 70 (0, 0)) := (hbe2.block _ (Nat.lt_of_lt_of_le HS.out hsz)).trans ((hbe1.block _ (by have := HS.out; simpa using this)).trans HZ.out)
       have z0 := upd_cell hz2 0 _ rfl
       have z1 := upd_cell hz2 1 _ rfl
       have z2 := upd_cell hz2 2 _ rfl
       have y0 := upd_fz hz2 0
       have y1 := upd_fz hz2 1
       have y2 := upd_fz hz2 2
       have HZ2 := keep hz2
       have hp3 := setCells_part (w.heap.size + 1) [.pointer (some ⟨b, 0, none⟩), .pointer (some ⟨J.b, 0, none⟩), .bool false] 0 w2
       have hc5 := HC4.out.step hbe2
       have hc6 : CfB (w2.setCells (w.heap.size + 1) 0 [.pointer (some ⟨b, 0, none⟩), .pointer (some ⟨J.b, 0, none⟩), .bool false]) w.heap.size a p r o i m := ⟨(hp3.block _ (Array.getElem?_eq_some_iff.1 hc5.blk).1 (by omega)).trans hc5.blk⟩
       have t1 := hc6.c1
       have t4 := hc6.c4
       have HR := keep (And.intro (hs1.step hbe2) (And.intro hj (And.intro hO (And.intro hF (And.intro hb1 (And.intro hk1 (And.intro hsz (And.intro (hs1.ow_lt (.inl rfl)) (And.intro (hs1.ow_lt (.inr (.inl rfl))) (HB3.out.trans ((hbe1.trans (hbe2.mono hbe1.size)).mono HB3.out.size)))))))))))
       clear hs1 hj hO hF hb1 hk1 hbe1 hbe2 hsz hz2 hp3 hc5 hc6))
  go_wp2
  obtain ⟨hs, hj, hO, hF, hb1, hk1, hsz, hbl, hkl, hbe⟩ := HR.out
  have hp := setCells_part (w.heap.size + 1) [.pointer (some ⟨b, 0, none⟩), .pointer (some ⟨J.b, 0, none⟩), .bool false] 0 w2
  have hwh := setCells_whole [.pointer (some ⟨b, 0, none⟩), .pointer (some ⟨J.b, 0, none⟩), .bool false] [] _ w2 HZ2.out rfl
  have hSS := HS.out
  have hb1' : W0.heap.size ≤ b := by simpa using hb1
  have hk1' : W0.heap.size ≤ k := by simpa using hk1
  refine bodyPost_ret (results_cell_row rfl _ _ (w.heap.size + 1) _ #[.pointer (some ⟨b, 0, none⟩), .pointer (some ⟨J.b, 0, none⟩), .bool false] (0, 0) _ rfl hwh Tryz.underlying70 rfl Rec_size) rfl ⟨b, k, J, w1.heap.size, rfl, hs.kept hp ?_, ⟨hj.ja.apart hp ?_ ?_, hj.good, hj.ends⟩, by omega, by omega, hbl, hkl, hO, hF, by omega, hbe.trans (hp.below hbe.size fun i hi => by rw [hi]; omega)⟩
  · rintro i (rfl | rfl | hi) he
    · omega
    · omega
    · cases hi
  · intro i hi he
    have := hO i hi
    omega
  · intro i hi
    exact absurd hi (hF i)
theorem blk_step {W W' : World} {i : Nat} {o : Obj} (h : W.heap[i]? = some o) (hb : Below W.heap.size W W') : W'.heap[i]? = some o := (hb.block _ (Array.getElem?_eq_some_iff.1 h).1).trans h
theorem qa_apart_new {W W' : World} {b : Nat} {q : Qm} (h : QA W (newG b) q) {S : Nat → Prop} (hp : Part S W W') (hb : ¬ S b) : QA W' (newG b) q := h.apart hp (fun i hi => by rw [show i = b from hi]; exact hb) fun i hi => hi.elim
def senC (Qb nb n : Nat) (ws : WS) (r : Int) : List Value := [.pointer (some ⟨Qb, 0, none⟩), .int .i64 ws.cw, .int .i64 ws.th, .int .i64 ws.pa, .int .i64 ws.mt, .bool ws.re, .int .u32 ws.ex, .int .i64 0, .int .i64 0, .int .i64 3000, .bool false, .int .i64 0, .bool false, .int .i64 r, .slice (some ⟨nb, 0, none⟩) n n, .int .u32 0, .bool false, .int .i64 0]
def senZ : List Value := [.pointer none, .int .i64 0, .int .i64 0, .int .i64 0, .int .i64 0, .bool false, .int .u32 0, .int .i64 0, .int .i64 0, .int .i64 0, .bool false, .int .i64 0, .bool false, .int .i64 0, .slice none 0 0, .int .u32 0, .bool false, .int .i64 0]
theorem Sen_size : (Tryz.prog.info? 66).map (·.size) = some 18 := by kernel_rfl
theorem u16_info2 : (Tryz.prog.info? 30).map (fun i => (i.zero, i.size, i.bytes)) = some (some (.int .u16 0), 1, 2) := by kernel_rfl
structure SenI (w W : World) : Prop where
  z : W.heap[w.heap.size + 1]? = some (.cells senZ.toArray 66 (0, 0))
  b : Below w.heap.size w W
  s : w.heap.size + 2 ≤ W.heap.size
theorem SenI.step {w W W' : World} (h : SenI w W) (hb : Below W.heap.size W W') : SenI w W' := ⟨blk_step h.z hb, h.b.trans (hb.mono h.b.size), Nat.le_trans h.s hb.size⟩
structure SenQ (w W : World) (a : Int) (Qb : Nat) : Prop where
  q : QA W (newG Qb) (newQ a)
  l : w.heap.size + 2 ≤ Qb
theorem SenQ.step {w W W' : World} {a : Int} {Qb : Nat} (h : SenQ w W a Qb) (hb : Below W.heap.size W W') : SenQ w W' a Qb := ⟨h.q.step hb, h.l⟩
structure SenN (w W : World) (n nb : Nat) : Prop where
  r : W.heap[nb]? = some (.cells (List.replicate n (Value.int .u16 0)).toArray 30 (0, 0))
  l : w.heap.size + 2 ≤ nb
theorem SenN.step {w W W' : World} {n nb : Nat} (h : SenN w W n nb) (hb : Below W.heap.size W W') : SenN w W' n nb := ⟨blk_step h.r hb, h.l⟩
theorem CfB.lay {w : World} {g : Nat} {a p r o i m : Int} (h : CfB w g a p r o i m) (ob : Obj) : CfB (w.alloc ob) g a p r o i m := h.step (below_lay w ob)
theorem CfB.sto {w : World} {g : Nat} {a p r o i m : Int} (h : CfB w g a p r o i m) (vs : List Value) : CfB (w.setCells (g + 1) 0 vs) g a p r o i m :=
  ⟨((setCells_part (g + 1) vs 0 w).block _ (Array.getElem?_eq_some_iff.1 h.blk).1 (by omega)).trans h.blk⟩
theorem sen_one (Qb nb n : Nat) (ws : WS) (r : Int) : (senC Qb nb n ws r).toArray.all (·.oneCell') = true := by simp [senC, Value.oneCell']
theorem sen_store {w W : World} (hz : W.heap[w.heap.size + 1]? = some (.cells senZ.toArray 66 (0, 0))) (Qb nb n : Nat) (cw th pa mt ex r : Int) (re : Bool) :
    (Instr.storeAt 66 (.pointer (some ⟨w.heap.size + 1, 0, none⟩)) (.agg #[.pointer (some ⟨Qb, 0, none⟩), .int .i64 cw, .int .i64 th, .int .i64 pa, .int .i64 mt, .bool re, .int .u32 ex, .int .i64 0, .int .i64 0, .int .i64 3000, .bool false, .int .i64 0, .bool false, .int .i64 r, .slice (some ⟨nb, 0, none⟩) n n, .int .u32 0, .bool false, .int .i64 0])).run Tryz.prog W = .ok () (W.setCells (w.heap.size + 1) 0 (senC Qb nb n ⟨cw, th, pa, mt, re, ex⟩ r)) :=
  run_storeAt_mid (P := Tryz.prog) W (w.heap.size + 1) 0 66 (senC Qb nb n ⟨cw, th, pa, mt, re, ex⟩ r).toArray (there_of hz 0 18 (by decide)) Sen_size (sen_one _ _ _ _ _)
theorem SenI.lay {w W : World} (h : SenI w W) (o : Obj) : SenI w (W.alloc o) := h.step (below_lay W o)
theorem SenQ.lay {w W : World} {a : Int} {Qb : Nat} (h : SenQ w W a Qb) (o : Obj) : SenQ w (W.alloc o) a Qb := h.step (below_lay W o)
theorem SenI.made {w W : World} (h : SenI w W) (n : Nat) : SenN w (W.alloc (.cells (List.replicate n (Value.int .u16 0)).toArray 30)) n W.heap.size := ⟨heap_alloc_new W _, h.s⟩
def SenP (w : World) (a r m : Int) (n : Nat) (e : Ending) (w' : World) : Prop := ∃ Qb nb, e = .returned (.agg (senC Qb nb n (WS.start m) r).toArray) ∧ SenQ w w' a Qb ∧ SenN w w' n nb ∧ Below w.heap.size w w'
theorem sen_fin {w W : World} {a r m : Int} {n Qb nb : Nat} {ws : WS} (hw : WS.start m = ws) (hi : SenI w W) (hq : SenQ w W a Qb) (hn : SenN w W n nb) {fn : Func} {p : Tmp} (hr : fn.results = #[.cell p 66]) {c : Act} (hd : c.defers = []) (hp : c.tmps.getD p undef = .pointer (some ⟨w.heap.size + 1, 0, none⟩)) :
    bodyPost Tryz.prog fn (SenP w a r m n) Exit.ret c (W.setCells (w.heap.size + 1) 0 (senC Qb nb n ws r)) := by
  have hpt := setCells_part (w.heap.size + 1) (senC Qb nb n ws r) 0 W
  have hwh := setCells_whole (senC Qb nb n ws r) [] _ W hi.z rfl
  subst hw
  refine bodyPost_ret (results_cell_row hr _ _ (w.heap.size + 1) _ (senC Qb nb n (WS.start m) r).toArray (0, 0) _ hp hwh Tryz.underlying66 rfl Sen_size) hd ⟨Qb, nb, rfl, ⟨qa_apart_new hq.q hpt (by have := hq.l; omega), hq.l⟩, ⟨(hpt.block _ (Array.getElem?_eq_some_iff.1 hn.r).1 (by have := hn.l; omega)).trans hn.r, hn.l⟩, hi.b.trans (hpt.below hi.b.size fun i hi => by rw [hi]; omega)⟩
set_option maxHeartbeats 8000000 in
theorem newSending_any (a p r i m : Int) (n : Nat) (ha : 0 ≤ a ∧ a < 4294967296) (hr : 0 ≤ r ∧ r < 4294967296) (hn1 : 1 ≤ n) (hn2 : n ≤ 64) (w : World) : Calls Tryz.prog 24 #[cfg a p r n i m] w (SenP w a r m n) := by
  have KQ := keep (fun W => New_any a ha W)
  have KR := keep (fun W => Start_at_ro W)
  obtain ⟨⟨cw, th, pa, mt, re, ex⟩, hws⟩ : ∃ z, WS.start m = z := ⟨_, rfl⟩
  have KW := keep (fun W => Start_at hws W)
  have HWS := keep hws
  obtain ⟨i0, hi0, hiz, his, hib⟩ := info_parts u16_info2
  have hN1 : ¬ (n : Int) < 1 := by omega
  have hN2 : ¬ (64 : Int) < (n : Int) := by omega
  have hr1 : IntKind.i64.wrap r = r := by simp [IntKind.wrap, IntKind.signed, IntKind.bits]; omega
  have HN := keep (And.intro hn1 hn2)
  have hmk : ∀ W : World, (Instr.makeSlice 62 (.int .i64 (n : Int)) (.int .i64 (n : Int))).run Tryz.prog W = .ok (.slice (some ⟨W.heap.size, 0, none⟩) n n) (W.alloc (.cells (List.replicate n (Value.int .u16 0)).toArray 30)) := fun W => by
    have h := run_make (P := Tryz.prog) W 62 30 i0 (.int .u16 0) Tryz.underlying62 hi0 hiz .i64 .i64 n n (by omega) (by omega) (by rw [hib]; omega) (by omega)
    simpa only [Int.toNat_natCast, his, Nat.mul_one, cells_made (.int .u16 0) rfl] using h
  clear ha hws hr hn1 hn2
  unfold cfg
  go_enter Tryz.func24, Tryz.ntmps24
  go_wp2_with fail
  have hbA := below_lay w (.cells #[.int .u32 a, .int .u32 p, .int .u32 r, .int .i64 n, .int .i64 i, .int .i64 m] 49)
  have HC := keep (CfB.mk (heap_alloc_new w (.cells #[.int .u32 a, .int .u32 p, .int .u32 r, .int .i64 n, .int .i64 i, .int .i64 m] 49)))
  have hbB := below_lay (w.alloc (.cells #[.int .u32 a, .int .u32 p, .int .u32 r, .int .i64 n, .int .i64 i, .int .i64 m] 49)) (.cells senZ.toArray 66)
  have hz := heap_alloc_new (w.alloc (.cells #[.int .u32 a, .int .u32 p, .int .u32 r, .int .i64 n, .int .i64 i, .int .i64 m] 49)) (.cells senZ.toArray 66)
  replace HC := keep ((HC.out.step hbB).step (Below.refl _ _).drew)
  have HI := keep (SenI.mk (W := (World.alloc (w.alloc (.cells #[.int .u32 a, .int .u32 p, .int .u32 r, .int .i64 n, .int .i64 i, .int .i64 m] 49)) (.cells senZ.toArray 66)).drew) (by simpa [World.drew] using hz) ((up hbA hbB).drew) (by simp))
  clear hbA hbB hz
  have hW : ∃ W0, World.alloc (w.alloc (.cells #[.int .u32 a, .int .u32 p, .int .u32 r, .int .i64 n, .int .i64 i, .int .i64 m] 49)) (.cells senZ.toArray 66) = W0 := ⟨_, rfl⟩
  obtain ⟨W0, hW⟩ := hW
  rw [hW] at HC HI
  unfold senZ at hW
  rw [hW]
  clear hW
  refine wp_region_held_drew (S := (fun w' => w'.cell? ⟨w.heap.size, 0, none⟩ = some (.int .u32 a) ∧ w'.cell? ⟨w.heap.size, 2, none⟩ = some (.int .u32 r) ∧ w'.cell? ⟨w.heap.size, 5, none⟩ = some (.int .i64 m))) (by kernel_rfl) ⟨HC.out.c0, HC.out.c2, HC.out.c5⟩ (fun hHeld => ?_)
  refine wT (i := 0) (oi := ⟨some 12, _, _, _, _, _⟩) (v := ?vq1x0) rfl (by kernel_rfl) (by kernel_rfl) (by kernel_rfl) (fun _ _ _ h => h) (Or.inl ⟨by rfl, ?hyq1x0⟩) (by assumption) ?restq1x0
  case hyq1x0 => (intro wz hSw; (try dsimp only at hSw); go_simp <;> try with_reducible rfl)
  try simp only [aP, lA, lZ, lS]
  refine wT (i := 1) (oi := ⟨some 13, _, _, _, _, _⟩) (v := ?vq2x1) rfl (by kernel_rfl) (by kernel_rfl) (by kernel_rfl) (fun _ _ _ h => h) (Or.inl ⟨by rfl, ?hyq2x1⟩) (by assumption) ?restq2x1
  case hyq2x1 => (intro wz hSw; (try dsimp only at hSw); go_simp <;> try with_reducible rfl)
  try simp only [aP, lA, lZ, lS]
  refine wT (i := 3) (oi := ⟨some 15, _, _, _, _, _⟩) (v := ?vq3x3) rfl (by kernel_rfl) (by kernel_rfl) (by kernel_rfl) (fun _ _ _ h => h) (Or.inl ⟨by rfl, ?hyq3x3⟩) (by assumption) ?restq3x3
  case hyq3x3 => (intro wz hSw; (try dsimp only at hSw); go_simp <;> try with_reducible rfl)
  try simp only [aP, lA, lZ, lS]
  refine wT (i := 4) (oi := ⟨some 16, _, _, _, _, _⟩) (v := ?vq4x4) rfl (by kernel_rfl) (by kernel_rfl) (by kernel_rfl) (fun _ _ _ h => h) (Or.inl ⟨by rfl, ?hyq4x4⟩) (by assumption) ?restq4x4
  case hyq4x4 => (intro wz hSw; (try dsimp only at hSw); go_simp <;> try with_reducible rfl)
  try simp only [aP, lA, lZ, lS]
  refine wT (i := 7) (oi := ⟨some 19, _, _, _, _, _⟩) (v := ?vq5x7) rfl (by kernel_rfl) (by kernel_rfl) (by kernel_rfl) (fun _ _ _ h => h) (Or.inl ⟨by rfl, ?hyq5x7⟩) (by assumption) ?restq5x7
  case hyq5x7 => (intro wz hSw; (try dsimp only at hSw); go_simp <;> try with_reducible rfl)
  try simp only [aP, lA, lZ, lS]
  refine wT (i := 8) (oi := ⟨some 20, _, _, _, _, _⟩) (v := ?vq6x8) rfl (by kernel_rfl) (by kernel_rfl) (by kernel_rfl) (fun _ _ _ h => h) (Or.inl ⟨by rfl, ?hyq6x8⟩) (by assumption) ?restq6x8
  case hyq6x8 => (intro wz hSw; (try dsimp only at hSw); go_simp <;> try with_reducible rfl)
  try simp only [aP, lA, lZ, lS]
  refine wT (i := 9) (oi := ⟨some 21, _, _, _, _, _⟩) (v := ?vq7x9) rfl (by kernel_rfl) (by kernel_rfl) (by kernel_rfl) (fun _ _ _ h => h) (Or.inl ⟨by rfl, ?hyq7x9⟩) (by assumption) ?restq7x9
  case hyq7x9 => (intro wz hSw; (try dsimp only at hSw); go_simp <;> try with_reducible rfl)
  try simp only [aP, lA, lZ, lS]
  refine wT (i := 10) (oi := ⟨some 22, _, _, _, _, _⟩) (v := ?vq8x10) rfl (by kernel_rfl) (by kernel_rfl) (by kernel_rfl) (fun _ _ _ h => h) (Or.inl ⟨by rfl, ?hyq8x10⟩) (by assumption) ?restq8x10
  case hyq8x10 => (intro wz hSw; (try dsimp only at hSw); go_simp <;> try with_reducible rfl)
  try simp only [aP, lA, lZ, lS]
  refine wpAnyH_ready (rs := [2, 11]) (by kernel_rfl) (by simp) (AllReadyH.cons (o := ⟨some 14, _, _, _, _, _⟩) rfl (fun K hK => ?wa1) (AllReadyH.cons (o := ⟨some 23, _, _, _, _, _⟩) rfl (fun K hK => ?wb1) AllReadyH.nil))
  case wa1 =>
    go_simp
    go_at_call 48
    refine (KQ.out _).mono ?_
    rintro e w1 ⟨rfl, hq, hb⟩
    have HQ := keep (SenQ.mk hq HI.out.s)
    clear hq
    replace HC := keep (HC.out.step hb)
    replace HI := keep (HI.out.step hb)
    clear hb
    (try go_wp2_with fail)
    refine hK.out _ _ ⟨HC.out.c0, HC.out.c2, HC.out.c5⟩ (fun hHeld => ?_)
    clear hK K
    try simp only [aP, lA, lZ, lS]
    refine wpAnyH_ready (rs := [5, 11]) (by kernel_rfl) (by simp) (AllReadyH.cons (o := ⟨some 17, _, _, _, _, _⟩) rfl (fun K hK => ?wa2) (AllReadyH.cons (o := ⟨some 23, _, _, _, _, _⟩) rfl (fun K hK => ?wb2) AllReadyH.nil))
    case wa2 =>
      go_simp
      go_at_call 49
      refine (KW.out _).mono ?_
      rintro e w2 ⟨rfl, hb⟩
      replace HQ := keep (HQ.out.step hb)
      replace HC := keep (HC.out.step hb)
      replace HI := keep (HI.out.step hb)
      clear hb
      (try go_wp2_with fail)
      refine hK.out _ _ ⟨HC.out.c0, HC.out.c2, HC.out.c5⟩ (fun hHeld => ?_)
      clear hK K
      try simp only [aP, lA, lZ, lS]
      refine wpAnyH_ready (rs := [6, 11]) (by kernel_rfl) (by simp) (AllReadyH.cons (o := ⟨some 18, _, _, _, _, _⟩) rfl (fun K hK => ?wa3) (AllReadyH.cons (o := ⟨some 23, _, _, _, _, _⟩) rfl (fun K hK => ?wb3) AllReadyH.nil))
      case wa3 =>
        go_simp
        go_at_call 50
        refine (KR.out _).mono ?_
        rintro e w3 ⟨rfl, hb⟩
        replace HQ := keep (HQ.out.step hb)
        replace HC := keep (HC.out.step hb)
        replace HI := keep (HI.out.step hb)
        clear hb
        (try go_wp2_with fail)
        refine hK.out _ _ ⟨HC.out.c0, HC.out.c2, HC.out.c5⟩ (fun hHeld => ?_)
        clear hK K
        try simp only [aP, lA, lZ, lS]
        refine wpAnyH_ready (rs := [11]) (by kernel_rfl) (by simp) (AllReadyH.cons (o := ⟨some 23, _, _, _, _, _⟩) rfl (fun K hK => ?_) AllReadyH.nil)
        refine step_make rfl (.tmp 22) (.tmp 22) 62 rfl 30 i0 (.int .u16 0) Tryz.underlying62 hi0 hiz his rfl n _ rfl rfl rfl (by rw [hib]; have := HN.out; omega) (by have := HN.out; unfold maxLen; omega) ?_
        intro w4 hr4 hb
        have HNN := keep (SenN.mk hr4 HI.out.s)
        clear hr4
        replace HQ := keep (HQ.out.step hb)
        replace HC := keep (HC.out.step hb)
        replace HI := keep (HI.out.step hb)
        clear hb
        refine hK.out _ _ ⟨HC.out.c0, HC.out.c2, HC.out.c5⟩ (fun hHeld => ?_)
        clear hK K
        try simp only [aP, lA, lZ, lS]
        refine wT (i := 12) (oi := ⟨some 24, _, _, _, _, _⟩) (v := ?vq9x12) rfl (by kernel_rfl) (by kernel_rfl) (by kernel_rfl) (fun _ _ _ h => h) (Or.inl ⟨by rfl, ?hyq9x12⟩) (by assumption) ?restq9x12
        case hyq9x12 => (intro wz hSw; (try dsimp only at hSw); go_simp <;> try with_reducible rfl)
        try simp only [aP, lA, lZ, lS]
        refine wpAnyH_ready (rs := [13]) (by kernel_rfl) (by simp) (AllReadyH.cons (o := ⟨none, _, _, _, _, _⟩) rfl (fun K hK => ?_) AllReadyH.nil)
        refine step_store rfl 66 (.tmp 2) (.tmp 24) rfl (w.heap.size + 1) 0 _ rfl rfl (there_of HI.out.z 0 18 (by decide)) Sen_size (by simp [Value.oneCell']) ?_
        refine hK.out _ _ ⟨(HC.out.sto _).c0, (HC.out.sto _).c2, (HC.out.sto _).c5⟩ (fun hHeld => ?_)
        clear hK K
        try simp only [aP, lA, lZ, lS]
        refine wpAnyH_done (by kernel_rfl) ?_ _
        go_wp2
        exact sen_fin HWS.out HI.out HQ.out HNN.out rfl rfl rfl
      case wb3 =>
        refine step_make rfl (.tmp 22) (.tmp 22) 62 rfl 30 i0 (.int .u16 0) Tryz.underlying62 hi0 hiz his rfl n _ rfl rfl rfl (by rw [hib]; have := HN.out; omega) (by have := HN.out; unfold maxLen; omega) ?_
        intro w4 hr4 hb
        have HNN := keep (SenN.mk hr4 HI.out.s)
        clear hr4
        replace HQ := keep (HQ.out.step hb)
        replace HC := keep (HC.out.step hb)
        replace HI := keep (HI.out.step hb)
        clear hb
        refine hK.out _ _ ⟨HC.out.c0, HC.out.c2, HC.out.c5⟩ (fun hHeld => ?_)
        clear hK K
        try simp only [aP, lA, lZ, lS]
        refine wpAnyH_ready (rs := [6]) (by kernel_rfl) (by simp) (AllReadyH.cons (o := ⟨some 18, _, _, _, _, _⟩) rfl (fun K hK => ?_) AllReadyH.nil)
        go_simp
        go_at_call 50
        refine (KR.out _).mono ?_
        rintro e w3 ⟨rfl, hb⟩
        replace HQ := keep (HQ.out.step hb)
        replace HNN := keep (HNN.out.step hb)
        replace HC := keep (HC.out.step hb)
        replace HI := keep (HI.out.step hb)
        clear hb
        (try go_wp2_with fail)
        refine hK.out _ _ ⟨HC.out.c0, HC.out.c2, HC.out.c5⟩ (fun hHeld => ?_)
        clear hK K
        try simp only [aP, lA, lZ, lS]
        refine wT (i := 12) (oi := ⟨some 24, _, _, _, _, _⟩) (v := ?vq10x12) rfl (by kernel_rfl) (by kernel_rfl) (by kernel_rfl) (fun _ _ _ h => h) (Or.inl ⟨by rfl, ?hyq10x12⟩) (by assumption) ?restq10x12
        case hyq10x12 => (intro wz hSw; (try dsimp only at hSw); go_simp <;> try with_reducible rfl)
        try simp only [aP, lA, lZ, lS]
        refine wpAnyH_ready (rs := [13]) (by kernel_rfl) (by simp) (AllReadyH.cons (o := ⟨none, _, _, _, _, _⟩) rfl (fun K hK => ?_) AllReadyH.nil)
        refine step_store rfl 66 (.tmp 2) (.tmp 24) rfl (w.heap.size + 1) 0 _ rfl rfl (there_of HI.out.z 0 18 (by decide)) Sen_size (by simp [Value.oneCell']) ?_
        refine hK.out _ _ ⟨(HC.out.sto _).c0, (HC.out.sto _).c2, (HC.out.sto _).c5⟩ (fun hHeld => ?_)
        clear hK K
        try simp only [aP, lA, lZ, lS]
        refine wpAnyH_done (by kernel_rfl) ?_ _
        go_wp2
        exact sen_fin HWS.out HI.out HQ.out HNN.out rfl rfl rfl
    case wb2 =>
      refine step_make rfl (.tmp 22) (.tmp 22) 62 rfl 30 i0 (.int .u16 0) Tryz.underlying62 hi0 hiz his rfl n _ rfl rfl rfl (by rw [hib]; have := HN.out; omega) (by have := HN.out; unfold maxLen; omega) ?_
      intro w4 hr4 hb
      have HNN := keep (SenN.mk hr4 HI.out.s)
      clear hr4
      replace HQ := keep (HQ.out.step hb)
      replace HC := keep (HC.out.step hb)
      replace HI := keep (HI.out.step hb)
      clear hb
      refine hK.out _ _ ⟨HC.out.c0, HC.out.c2, HC.out.c5⟩ (fun hHeld => ?_)
      clear hK K
      try simp only [aP, lA, lZ, lS]
      refine wpAnyH_ready (rs := [5]) (by kernel_rfl) (by simp) (AllReadyH.cons (o := ⟨some 17, _, _, _, _, _⟩) rfl (fun K hK => ?_) AllReadyH.nil)
      go_simp
      go_at_call 49
      refine (KW.out _).mono ?_
      rintro e w2 ⟨rfl, hb⟩
      replace HQ := keep (HQ.out.step hb)
      replace HNN := keep (HNN.out.step hb)
      replace HC := keep (HC.out.step hb)
      replace HI := keep (HI.out.step hb)
      clear hb
      (try go_wp2_with fail)
      refine hK.out _ _ ⟨HC.out.c0, HC.out.c2, HC.out.c5⟩ (fun hHeld => ?_)
      clear hK K
      try simp only [aP, lA, lZ, lS]
      refine wpAnyH_ready (rs := [6]) (by kernel_rfl) (by simp) (AllReadyH.cons (o := ⟨some 18, _, _, _, _, _⟩) rfl (fun K hK => ?_) AllReadyH.nil)
      go_simp
      go_at_call 50
      refine (KR.out _).mono ?_
      rintro e w3 ⟨rfl, hb⟩
      replace HQ := keep (HQ.out.step hb)
      replace HNN := keep (HNN.out.step hb)
      replace HC := keep (HC.out.step hb)
      replace HI := keep (HI.out.step hb)
      clear hb
      (try go_wp2_with fail)
      refine hK.out _ _ ⟨HC.out.c0, HC.out.c2, HC.out.c5⟩ (fun hHeld => ?_)
      clear hK K
      try simp only [aP, lA, lZ, lS]
      refine wT (i := 12) (oi := ⟨some 24, _, _, _, _, _⟩) (v := ?vq11x12) rfl (by kernel_rfl) (by kernel_rfl) (by kernel_rfl) (fun _ _ _ h => h) (Or.inl ⟨by rfl, ?hyq11x12⟩) (by assumption) ?restq11x12
      case hyq11x12 => (intro wz hSw; (try dsimp only at hSw); go_simp <;> try with_reducible rfl)
      try simp only [aP, lA, lZ, lS]
      refine wpAnyH_ready (rs := [13]) (by kernel_rfl) (by simp) (AllReadyH.cons (o := ⟨none, _, _, _, _, _⟩) rfl (fun K hK => ?_) AllReadyH.nil)
      refine step_store rfl 66 (.tmp 2) (.tmp 24) rfl (w.heap.size + 1) 0 _ rfl rfl (there_of HI.out.z 0 18 (by decide)) Sen_size (by simp [Value.oneCell']) ?_
      refine hK.out _ _ ⟨(HC.out.sto _).c0, (HC.out.sto _).c2, (HC.out.sto _).c5⟩ (fun hHeld => ?_)
      clear hK K
      try simp only [aP, lA, lZ, lS]
      refine wpAnyH_done (by kernel_rfl) ?_ _
      go_wp2
      exact sen_fin HWS.out HI.out HQ.out HNN.out rfl rfl rfl
  case wb1 =>
    refine step_make rfl (.tmp 22) (.tmp 22) 62 rfl 30 i0 (.int .u16 0) Tryz.underlying62 hi0 hiz his rfl n _ rfl rfl rfl (by rw [hib]; have := HN.out; omega) (by have := HN.out; unfold maxLen; omega) ?_
    intro w4 hr4 hb
    have HNN := keep (SenN.mk hr4 HI.out.s)
    clear hr4
    replace HC := keep (HC.out.step hb)
    replace HI := keep (HI.out.step hb)
    clear hb
    refine hK.out _ _ ⟨HC.out.c0, HC.out.c2, HC.out.c5⟩ (fun hHeld => ?_)
    clear hK K
    try simp only [aP, lA, lZ, lS]
    refine wpAnyH_ready (rs := [2]) (by kernel_rfl) (by simp) (AllReadyH.cons (o := ⟨some 14, _, _, _, _, _⟩) rfl (fun K hK => ?_) AllReadyH.nil)
    go_simp
    go_at_call 48
    refine (KQ.out _).mono ?_
    rintro e w1 ⟨rfl, hq, hb⟩
    have HQ := keep (SenQ.mk hq HI.out.s)
    clear hq
    replace HNN := keep (HNN.out.step hb)
    replace HC := keep (HC.out.step hb)
    replace HI := keep (HI.out.step hb)
    clear hb
    (try go_wp2_with fail)
    refine hK.out _ _ ⟨HC.out.c0, HC.out.c2, HC.out.c5⟩ (fun hHeld => ?_)
    clear hK K
    try simp only [aP, lA, lZ, lS]
    refine wpAnyH_ready (rs := [5]) (by kernel_rfl) (by simp) (AllReadyH.cons (o := ⟨some 17, _, _, _, _, _⟩) rfl (fun K hK => ?_) AllReadyH.nil)
    go_simp
    go_at_call 49
    refine (KW.out _).mono ?_
    rintro e w2 ⟨rfl, hb⟩
    replace HQ := keep (HQ.out.step hb)
    replace HNN := keep (HNN.out.step hb)
    replace HC := keep (HC.out.step hb)
    replace HI := keep (HI.out.step hb)
    clear hb
    (try go_wp2_with fail)
    refine hK.out _ _ ⟨HC.out.c0, HC.out.c2, HC.out.c5⟩ (fun hHeld => ?_)
    clear hK K
    try simp only [aP, lA, lZ, lS]
    refine wpAnyH_ready (rs := [6]) (by kernel_rfl) (by simp) (AllReadyH.cons (o := ⟨some 18, _, _, _, _, _⟩) rfl (fun K hK => ?_) AllReadyH.nil)
    go_simp
    go_at_call 50
    refine (KR.out _).mono ?_
    rintro e w3 ⟨rfl, hb⟩
    replace HQ := keep (HQ.out.step hb)
    replace HNN := keep (HNN.out.step hb)
    replace HC := keep (HC.out.step hb)
    replace HI := keep (HI.out.step hb)
    clear hb
    (try go_wp2_with fail)
    refine hK.out _ _ ⟨HC.out.c0, HC.out.c2, HC.out.c5⟩ (fun hHeld => ?_)
    clear hK K
    try simp only [aP, lA, lZ, lS]
    refine wT (i := 12) (oi := ⟨some 24, _, _, _, _, _⟩) (v := ?vq12x12) rfl (by kernel_rfl) (by kernel_rfl) (by kernel_rfl) (fun _ _ _ h => h) (Or.inl ⟨by rfl, ?hyq12x12⟩) (by assumption) ?restq12x12
    case hyq12x12 => (intro wz hSw; (try dsimp only at hSw); go_simp <;> try with_reducible rfl)
    try simp only [aP, lA, lZ, lS]
    refine wpAnyH_ready (rs := [13]) (by kernel_rfl) (by simp) (AllReadyH.cons (o := ⟨none, _, _, _, _, _⟩) rfl (fun K hK => ?_) AllReadyH.nil)
    refine step_store rfl 66 (.tmp 2) (.tmp 24) rfl (w.heap.size + 1) 0 _ rfl rfl (there_of HI.out.z 0 18 (by decide)) Sen_size (by simp [Value.oneCell']) ?_
    refine hK.out _ _ ⟨(HC.out.sto _).c0, (HC.out.sto _).c2, (HC.out.sto _).c5⟩ (fun hHeld => ?_)
    clear hK K
    try simp only [aP, lA, lZ, lS]
    refine wpAnyH_done (by kernel_rfl) ?_ _
    go_wp2
    exact sen_fin HWS.out HI.out HQ.out HNN.out rfl rfl rfl
end
section
open Go.RowKit Go.Maps
def cz (y : CX) : CZ := ⟨y.kd, y.fl, y.a, y.b, y.ou, y.si, y.pp, y.bl, y.du, y.sk, y.pr, y.da, [], [], [], [], y.bs⟩
theorem cz_flat : ∀ l : List CX, flatF CZ.cells (l.map cz) = flatF CX.cells l
  | [] => rfl
  | y :: r => by
    show (cz y).cells ++ flatF CZ.cells (r.map cz) = y.cells ++ flatF CX.cells r
    rw [cz_flat r]
    rfl
theorem cz_zv {w : World} {y : CX} (h : CV w y) (p : Plain y) : ZV w (cz y) := by
  obtain ⟨p1, p2, p3, p4⟩ := p
  refine ⟨h.kd, h.fl, h.a, h.b, h.ou, h.si, h.pp, ?_, ?_, ?_, ?_, fun q hq => (by cases hq), h.bs⟩
  · show LR blC w y.bl []
    rw [p1]
    exact ⟨rfl, Nat.le_refl _, SR.nil _ _⟩
  · show LR duC w y.du []
    rw [p2]
    exact ⟨rfl, Nat.le_refl _, SR.nil _ _⟩
  · show LR blC w y.sk []
    rw [p3]
    exact ⟨rfl, Nat.le_refl _, SR.nil _ _⟩
  · show LR PZ.cells w y.pr []
    rw [p4]
    exact ⟨rfl, Nat.le_refl _, SR.nil _ _⟩
theorem cz_sm {w : World} {y : CX} (h : CV w y) (p : Plain y) (hl : y.bs.length ≤ 1000000) : Sm (cz y) := by
  obtain ⟨p1, p2, p3, p4⟩ := p
  refine ⟨?_, ?_, ?_, ?_, by rw [show (cz y).da.2.1 = y.bs.length from h.bs.len]; exact hl⟩
  · show y.bl.2.1 ≤ 1000000; rw [p1]; decide
  · show y.du.2.1 ≤ 1000000; rw [p2]; decide
  · show y.sk.2.1 ≤ 1000000; rw [p3]; decide
  · show y.pr.2.1 ≤ 1000000; rw [p4]; decide
theorem cz_ads {y : CX} (p : Plain y) : ∀ A ∈ (cz y).ads, A = none ∨ A = y.da.1 := by
  obtain ⟨p1, p2, p3, p4⟩ := p
  intro A hA
  have hA' : A ∈ [y.bl.1, y.du.1, y.sk.1, y.pr.1, y.da.1] ++ [] := hA
  rw [p1, p2, p3, p4] at hA'
  simp at hA'
  exact hA'
def Gq.tight (G : Gq) (q : Qm) : Gq := { G with O := fun i => i = G.b ∨ (Value.slice G.s.1 G.s.2.1 G.s.2.2).ownBlock = some i ∨ ∃ e ∈ q.es, i = e.p ∨ i = e.m }
theorem QA.tight {w : World} {G : Gq} {q : Qm} (h : QA w G q) : QA w (G.tight q) q ∧ ∀ i, (G.tight q).O i → G.O i := by
  have hsub : ∀ i, (G.tight q).O i → G.O i := by
    rintro i (rfl | h1 | ⟨e, he, rfl | rfl⟩)
    · exact h.ob
    · exact h.ov i h1
    · exact (h.en e he).2.1
    · exact (h.en e he).2.2.2
  exact ⟨⟨h.blk, .inl rfl, h.row, fun g hg => .inr (.inl hg), fun e he => ⟨(h.en e he).1, .inr (.inr ⟨e, he, .inl rfl⟩), (h.en e he).2.2.1, .inr (.inr ⟨e, he, .inr rfl⟩)⟩, h.nd, h.nx, h.le, fun i hi => h.dis i (hsub i hi), fun i hi => h.olt i (hsub i hi), h.flt⟩, hsub⟩
theorem QA.tight_no {w : World} {G : Gq} {q : Qm} (h : QA w G q) {i : Nat} {cs : Array Value} {t : TypeId} {fr : Nat × Nat} (hc : w.heap[i]? = some (.cells cs t fr)) (h1 : t ≠ 104) (h2 : t ≠ 91) (h3 : t ≠ 96) (h4 : t ≠ 93) : ¬ (G.tight q).O i := by
  rintro (rfl | hi | ⟨e, he, rfl | rfl⟩)
  · exact cells_cells hc h.blk h1 rfl
  · obtain ⟨cur, fr', hcur⟩ := own_cells h.row hi
    exact cells_cells hc hcur h2 rfl
  · exact cells_cells hc (h.en e he).1.blk h3 rfl
  · exact cells_cells hc (h.en e he).2.2.1 h4 rfl
theorem XA.tight {w : World} {g : Xg} {x : Xm} (h : XA w g x) : XA w { g with Q := g.Q.tight x.q } x ∧ Xl w g w { g with Q := g.Q.tight x.q } := by
  obtain ⟨h1, h2⟩ := h.qa.tight
  exact h.upQ h1 h.nu ⟨rfl, Part.refl _ _, fun i hi => .inl (h2 i hi), fun i hi => .inl hi⟩
structure NewE (M : Msg) (ssn : Int) (k : Nat) (q : Qm) (new : List En) (m : Nat) : Prop where
  len : new.length = cnt k M.da.length
  all : ∀ (i : Nat) (e : En), new[i]? = some e → e.c.ct = ⟨0, flg M.un (cnt k M.da.length) i, (q.nx + (i : Int)) % 4294967296, 0, M.st, ssnOf M ssn, M.pp, [], [], [], [], piece k M.da i⟩ ∧ lenE e = (piece k M.da i).length ∧ e.m = m ∧ e.st = 0 ∧ e.sn = 0 ∧ e.la = 0 ∧ e.ms = 0
theorem newE_of {M : Msg} {ssn : Int} {k : Nat} {q : Qm} {new : List En} {m : Nat} {w : World} {l : List CX} (hl : l.map CX.ch = splitL M 0 ssn k) (hp : PushN q (l.map cz) m (l.map cz).length new) (hv : ∀ x ∈ l, CV w x) : NewE M ssn k q new m := by
  have hll : l.length = cnt k M.da.length := by
    have := congrArg List.length hl
    rwa [List.length_map, splitL_len] at this
  refine ⟨by rw [hp.len, List.length_map, hll], fun i e he => ?_⟩
  have hi : i < l.length := by
    have := (List.getElem?_eq_some_iff.1 he).1
    rwa [hp.len, List.length_map] at this
  have hly : l[i]? = some l[i] := List.getElem?_eq_getElem hi
  obtain ⟨h1, h2, h3, h4, h5, h6, h7⟩ := hp.all i (cz l[i]) e (by rw [List.getElem?_map, hly]; rfl) he
  have hch := congrArg (fun z => z[i]?) hl
  rw [List.getElem?_map, hly, splitL_get (by omega)] at hch
  injection hch with hch
  have hbs : l[i].bs = piece k M.da i := congrArg Ch.da hch
  refine ⟨?_, ?_, h3, h4, h5, h6, h7⟩
  · rw [h1]
    have e1 : l[i].kd = 0 := congrArg Ch.kd hch
    have e2 : l[i].fl = flg M.un (cnt k M.da.length) i := congrArg Ch.fl hch
    have e3 : l[i].b = 0 := congrArg Ch.b hch
    have e4 : l[i].ou = M.st := congrArg Ch.ou hch
    have e5 : l[i].si = ssnOf M ssn := congrArg Ch.si hch
    have e6 : l[i].pp = M.pp := congrArg Ch.pp hch
    show (⟨l[i].kd, l[i].fl, _, l[i].b, l[i].ou, l[i].si, l[i].pp, [], [], [], [], l[i].bs⟩ : Ct) = _
    rw [e1, e2, e3, e4, e5, e6, hbs]
  · unfold lenE
    rw [h2, ← hbs]
    exact (hv l[i] (List.getElem_mem hi)).bs.len
end
end Go.Proofs.YtnlkdlnmffibhaaGreat
