/- KBC of the stage: texts Q29, Q30, joined. -/
import Derived.Test.YtffjdknmfmlfnaaKBB
import Derived.Test.YtffjdknmfmlfnaaKAU
set_option linter.unusedSimpArgs false
set_option linter.unusedVariables false
namespace Go.Proofs.Ytffjdknmfmlfnaa
section
open Go.RowKit Go.Maps

def newG (b : Nat) : Gq := ⟨b, (none, 0, 0), fun i => i = b, fun _ => False⟩
def newQ (first : Int) : Qm := ⟨[], first, fun _ => ⟨0, 0, false⟩⟩
theorem New_any (first : Int) (hf : 0 ≤ first ∧ first < 4294967296) (w : World) : Calls Try.prog 6 #[.int .u32 first] w fun e w' => e = .returned (.pointer (some ⟨w.heap.size, 0, none⟩)) ∧ QA w' (newG w.heap.size) (newQ first) ∧ Below w.heap.size w w' := by
  have L0 := below_lay w (.cells #[.slice none 0 0, .int .u32 first] 56)
  have H := keep (show QA (w.alloc (.cells #[.slice none 0 0, .int .u32 first] 56)) (newG w.heap.size) (newQ first) ∧ Below w.heap.size w (w.alloc (.cells #[.slice none 0 0, .int .u32 first] 56)) from
    ⟨⟨heap_alloc_new w _, rfl, World.ownsRow_nil _ _ _ _, fun g hg => (by cases hg), fun e he => (by cases he), List.nodup_nil, hf, Nat.zero_le _, fun _ _ h => h, fun i hi => (by rw [show i = w.heap.size from hi]; simp), fun _ h => h.elim⟩, L0⟩)
  clear L0 hf
  go_enter Try.func6, Try.ntmps6
  go_wp2
  go_ret
  exact ⟨rfl, H.out⟩
theorem new_nums (first : Int) : Nums (newQ first) := fun i e he => by simp [newQ] at he
def pz (n g : Nat) : CZ := ⟨0, 3, 0, 0, 0, 0, 0, (none, 0, 0), (none, 0, 0), (none, 0, 0), (none, 0, 0), (some ⟨g, 0, none⟩, n, n), [], [], [], [], List.replicate n 0⟩
theorem bc_zeros (n : Nat) : bc (List.replicate n (0 : UInt8)) = List.replicate n (Value.int .u8 0) := by
  unfold bc
  rw [List.map_replicate]
  rfl
theorem pz_zv {w : World} {n g : Nat} (h : w.heap[g]? = some (.cells (List.replicate n (Value.int .u8 0)).toArray 5 (0, 0))) : ZV w (pz n g) :=
  ⟨(show (0 : Int) ≤ 0 ∧ (0 : Int) < 256 by decide), (show (0 : Int) ≤ 3 ∧ (3 : Int) < 256 by decide), (show (0 : Int) ≤ 0 ∧ (0 : Int) < 4294967296 by decide), (show (0 : Int) ≤ 0 ∧ (0 : Int) < 4294967296 by decide), (show (0 : Int) ≤ 0 ∧ (0 : Int) < 65536 by decide), (show (0 : Int) ≤ 0 ∧ (0 : Int) < 65536 by decide), (show (0 : Int) ≤ 0 ∧ (0 : Int) < 4294967296 by decide),
    ⟨rfl, Nat.le_refl _, SR.nil _ _⟩, ⟨rfl, Nat.le_refl _, SR.nil _ _⟩, ⟨rfl, Nat.le_refl _, SR.nil _ _⟩, ⟨rfl, Nat.le_refl _, SR.nil _ _⟩, fun p hp => (by cases hp), ⟨(List.length_replicate ..).symm, Nat.le_refl _, by
      show SR w (some ⟨g, 0, none⟩) (bc (List.replicate n 0))
      rw [bc_zeros]
      simpa using SR.row h⟩⟩
theorem pz_sm {n g : Nat} (h : n ≤ 1000000) : Sm (pz n g) := ⟨Nat.zero_le _, Nat.zero_le _, Nat.zero_le _, Nat.zero_le _, h⟩
theorem by_info : (Try.prog.info? 5).map (fun i => (i.zero, i.size, i.bytes)) = some (some (.int .u8 0), 1, 1) := by kernel_rfl
set_option maxRecDepth 100000 in
set_option maxHeartbeats 1000000 in
theorem piece_any (n : Nat) (hn : n ≤ 1000000) (w : World) : Calls Try.prog 11 #[.int .i64 n] w fun e w' => e = .returned (.agg (pz n (w.heap.size + 1)).cells.toArray) ∧ ZV w' (pz n (w.heap.size + 1)) ∧ w.heap.size + 1 < w'.heap.size ∧ Below w.heap.size w w' := by
  obtain ⟨i0, hi0, hz0, hz1, hz2⟩ := info_parts by_info
  have L0 := keep (below_lay w (.cells zZero.cells.toArray 45))
  have HZ := keep (show ZB (w.alloc (.cells zZero.cells.toArray 45)) w.heap.size zZero from heap_alloc_new w _)
  have s1 : (w.alloc (.cells zZero.cells.toArray 45)).heap.size = w.heap.size + 1 := by simp
  have S1 := keep s1
  clear s1
  dsimp only [zZero, CZ.cells] at L0 HZ S1
  go_enter Try.func11, Try.ntmps11
  go_wp2_with (at_make; refine wpl_make rfl _ _ 43 rfl 5 i0 (.int .u8 0) Try.underlying43 hi0 hz0 hz1 rfl n _ rfl rfl rfl (by rw [hz2]; omega) (by unfold maxLen; omega) ?_
               intro w2 hg2 hb2 hs2
               have HB2 := keep hb2
               have HS2 := keep hs2
               have HZ2 := keep (ZB.step HZ.out hb2)
               obtain ⟨⟨f0, f1, f2, f3, f4, f5⟩, f6, f7, f8, f9, f10, f11⟩ := HZ2.out.fz12
               obtain ⟨⟨z0, z1, z2, z3, z4, z5, z6⟩, z7, z8, z9, z10, z11⟩ := HZ2.out.all
               dsimp only at z0 z1 z2 z3 z4 z5 z6 z7 z8 z9 z10 z11
               clear hb2 hs2)
  have hzb := ZB.laid (cs := _) rfl HZ2.out (pz n (w.heap.size + 1))
  have hpt := ZB.part w2 w.heap.size (pz n (w.heap.size + 1))
  have hun := ZB.under (L0.out.trans (HB2.out.mono L0.out.size)) (Nat.le_refl _) (pz n (w.heap.size + 1))
  have hgg := hg2.out
  have hss := HS2.out
  rw [S1.out] at hgg hss
  have hrow := (hpt.block _ hss (by omega)).trans hgg
  have hsz := Nat.lt_of_lt_of_le hss hpt.size
  exact bodyPost_ret (ret_zchunk rfl _ _ w.heap.size (pz n (w.heap.size + 1)) rfl hzb) rfl ⟨rfl, pz_zv hrow, hsz, hun⟩
end
section
open Go.RowKit Go.Maps

theorem zs_row {w : World} {g : Nat} {l : List CZ} (h : w.heap[g]? = some (.cells (flatF CZ.cells l).toArray 45 (0, 0))) (hz : ∀ x ∈ l, ZV w x) : ZS w (some ⟨g, 0, none⟩, l.length, l.length) l :=
  ⟨⟨rfl, Nat.le_refl _, by simpa using SR.row h⟩, hz⟩
theorem push_flr (q : Qm) (new : List En) (m : Nat) (un tr : Int) : flr (pushQ q new m un tr) = flr q := by
  unfold flr pushQ
  simp only [List.length_append]
  omega
theorem push_nums {q : Qm} {l : List CZ} {m j : Nat} {new : List En} (h : Nums q) (hp : PushN q l m j new) (hl : j ≤ l.length) (un tr : Int) : Nums (pushQ q new m un tr) := by
  intro i e he
  rw [push_flr]
  have he' : (q.es ++ new)[i]? = some e := he
  by_cases hi : i < q.es.length
  · rw [List.getElem?_append_left hi] at he'
    exact h i e he'
  · rw [List.getElem?_append_right (by omega)] at he'
    have h1 := (List.getElem?_eq_some_iff.1 he').1
    have hlen := hp.len
    have h2 := (hp.all _ _ e (List.getElem?_eq_getElem (show i - q.es.length < l.length by omega)) he').1
    have h3 : e.c.a = (q.nx + ((i - q.es.length : Nat) : Int)) % 4294967296 := congrArg Ct.a h2
    rw [h3]
    unfold flr
    omega
theorem unfit_pz {n g : Nat} (h : 0 < n) : unfitB (pz n g) = false := by
  unfold unfitB pz
  simp
  omega
theorem take_a : ∀ (k n : Nat) (now : Int) (i : Nat) (es : List En) (r : Int) (t : List CZ), (takeGo now n k i es r t).1.map (fun e => e.c.a) = es.map (fun e => e.c.a) ∧ (takeGo now n k i es r t).1.length = es.length
  | 0, _, _, _, _, _, _ => ⟨rfl, rfl⟩
  | k + 1, n, now, i, es, r, t => by
    rw [takeGo]
    split
    · exact ⟨rfl, rfl⟩
    · rename_i e he
      split
      · split
        · exact ⟨rfl, rfl⟩
        · obtain ⟨h1, h2⟩ := take_a k n now (i + 1) (es.set (ixD n i) (sendE now e)) (r - (e.c.da.2.1 : Int)) (t ++ [e.c])
          rw [h1, h2, List.length_set]
          refine ⟨?_, rfl⟩
          rw [List.map_set]
          apply List.ext_getElem?
          intro j
          rw [List.getElem?_set]
          split
          · rename_i hj
            subst hj
            split
            · rw [List.getElem?_map, he]; rfl
            · rename_i hh
              rw [List.getElem?_eq_none (by omega)]
          · rfl
      · exact take_a k n now (i + 1) es r t
/-- A list of entries of the same numbers. -/
theorem nums_of {q q' : Qm} (h : Nums q) (hn : q'.nx = q.nx) (ha : q'.es.map (fun e => e.c.a) = q.es.map (fun e => e.c.a)) : Nums q' := by
  have hl : q'.es.length = q.es.length := by have := congrArg List.length ha; rwa [List.length_map, List.length_map] at this
  intro i e he
  have h1 : (q.es.map (fun e => e.c.a))[i]? = some e.c.a := by rw [← ha, List.getElem?_map, he]; rfl
  rw [List.getElem?_map] at h1
  cases hx : q.es[i]? with
  | none => rw [hx] at h1; cases h1
  | some x =>
    rw [hx] at h1
    injection h1 with h1
    rw [← h1]
    show x.c.a = _
    rw [h i x hx]
    unfold flr
    rw [hn, hl]
def tkQ (q : Qm) (now room : Int) : Qm := ⟨(takeQ q now room).1, q.nx, q.mg⟩
theorem take_nums {q : Qm} (h : Nums q) (now room : Int) : Nums (tkQ q now room) := nums_of h rfl (take_a _ _ _ _ _ _ _).1
theorem apart_new {w : World} {G : Gq} {q : Qm} (h : QA w G q) {A : Option Addr} (hA : InF (fun k => w.heap.size ≤ k) A) : InF (fun i => ¬ G.O i) A := fun a ea ho => by
  have := hA a ea
  have := h.olt _ ho
  omega
theorem pz_ads {n g N : Nat} (h : N ≤ g) : ∀ A ∈ (pz n g).ads, InF (fun k => N ≤ k) A := by
  intro A hA a ea
  simp only [CZ.ads, pz, List.map_nil, List.append_nil, List.mem_cons, List.not_mem_nil, or_false] at hA
  rcases hA with rfl | rfl | rfl | rfl | rfl
  · cases ea
  · cases ea
  · cases ea
  · cases ea
  · injection ea with ea
    rw [← ea]
    exact h
theorem awake_math {p0 p1 p2 m m0 m1 m2 : Nat} {c0 c1 c2 : CZ} (h0 : c0.da.2.1 = 10) (h1 : c1.da.2.1 = 10) (h2 : c2.da.2.1 = 10) (mg : Nat → Mg) :
    takeQ ⟨[⟨p0, c0, m0, 0, 0, 0, 0⟩, ⟨p1, c1, m1, 0, 0, 0, 0⟩, ⟨p2, c2, m2, 0, 0, 0, 0⟩], 8, mg⟩ 0 25 = ([⟨p0, c0, m0, 1, 1, 0, 0⟩, ⟨p1, c1, m1, 1, 1, 0, 0⟩, ⟨p2, c2, m2, 0, 0, 0, 0⟩], [c0, c1]) ∧
    reachedB ⟨[⟨p0, c0, m0, 1, 1, 0, 0⟩, ⟨p1, c1, m1, 1, 1, 0, 0⟩, ⟨p2, c2, m2, 0, 0, 0, 0⟩], 8, mg⟩ 5 = true ∧
    ackR ⟨[⟨p0, c0, m0, 1, 1, 0, 0⟩, ⟨p1, c1, m1, 1, 1, 0, 0⟩, ⟨p2, c2, m2, 0, 0, 0, 0⟩], 8, mg⟩ 5 [] 40 = ⟨10, 40, false, true⟩ ∧
    flr (ackQ ⟨[⟨p0, c0, m0, 1, 1, 0, 0⟩, ⟨p1, c1, m1, 1, 1, 0, 0⟩, ⟨p2, c2, m2, 0, 0, 0, 0⟩], 8, mg⟩ 5 []) = 5 ∧ (ackQ ⟨[⟨p0, c0, m0, 1, 1, 0, 0⟩, ⟨p1, c1, m1, 1, 1, 0, 0⟩, ⟨p2, c2, m2, 0, 0, 0, 0⟩], 8, mg⟩ 5 []).es.length = 2 := by
  obtain ⟨k0, f0, a0, b0, o0, s0, q0, l0, d0, e0, g0, ⟨t0, n0, u0⟩, x0, y0, z0, w0, v0⟩ := c0
  obtain ⟨k1, f1, a1, b1, o1, s1, q1, l1, d1, e1, g1, ⟨t1, n1, u1⟩, x1, y1, z1, w1, v1⟩ := c1
  obtain ⟨k2, f2, a2, b2, o2, s2, q2, l2, d2, e2, g2, ⟨t2, n2, u2⟩, x2, y2, z2, w2, v2⟩ := c2
  dsimp only at h0 h1 h2
  subst h0 h1 h2
  refine ⟨?_, ?_, ?_, ?_, ?_⟩
  · simp [takeQ, takeGo, ixD, phD, sendE]
    unfold wrap64
    omega
  · rfl
  · rfl
  · rfl
  · rfl
/-- A queue that was made in this call. -/
structure QS (w : World) (b : Nat) (G : Gq) (q : Qm) (W : World) : Prop where
  qa : QA W G q
  nu : Nums q
  gb : G.b = b
  lo : ∀ i, G.O i → w.heap.size ≤ i
  bl : Below w.heap.size w W
section
variable {w W W' : World} {b : Nat} {G G' : Gq} {q q' : Qm}
theorem QS.step (h : QS w b G q W) (hb : Below W.heap.size W W') : QS w b G q W' := ⟨h.qa.step hb, h.nu, h.gb, h.lo, h.bl.trans (hb.mono h.bl.size)⟩
theorem QS.ltr (h : QS w b G q W) (hq : QA W' G' q') (hn : Nums q') (hl : Ltr W G W' G') : QS w b G' q' W' :=
  ⟨hq, hn, hl.b.trans h.gb, fun i hi => by
    rcases hl.o i hi with h1 | h1
    · exact h.lo i h1
    · exact Nat.le_trans h.bl.size h1, h.bl.trans (hl.part.below h.bl.size h.lo)⟩
theorem QS.out (h : QS w b G q W) {A : Option Addr} (hA : InF (fun k => W.heap.size ≤ k ∨ k < w.heap.size) A) : InF (fun i => ¬ G.O i) A := fun a ea ho => by
  have h1 := hA a ea
  have h2 := h.qa.olt _ ho
  have h3 := h.lo _ ho
  omega
theorem New_qs (first : Int) (hf : 0 ≤ first ∧ first < 4294967296) (hb : Below w.heap.size w W) : Calls Try.prog 6 #[.int .u32 first] W fun e w' => e = .returned (.pointer (some ⟨W.heap.size, 0, none⟩)) ∧ Hid (QS w W.heap.size (newG W.heap.size) (newQ first) w') := by
  refine (New_any first hf W).mono ?_
  rintro e w' ⟨rfl, h1, h2⟩
  exact ⟨rfl, keep ⟨h1, new_nums first, rfl, fun i hi => by rw [show i = W.heap.size from hi]; exact hb.size, hb.trans (h2.mono hb.size)⟩⟩
theorem Push_qs (h : QS w b G q W) {s : SL} {l : List CZ} (hl : ZS W s l) (hn : s.2.1 ≤ 1000000) (hsm : ∀ x ∈ l, Sm x) (hs : InF (fun i => ¬ G.O i) s.1) (hx : ∀ x ∈ l, ∀ A ∈ x.ads, InF (fun i => ¬ G.O i) A) (un tr : Int) (hu : ¬ (l = [] ∨ l.any unfitB = true)) (hf : ¬ 1024 < q.es.length + l.length) :
    Calls Try.prog 10 #[.pointer (some ⟨b, 0, none⟩), .slice s.1 s.2.1 s.2.2, .int .i64 un, .int .i64 tr] W fun e w' => e = .returned (.int .i64 0) ∧ ∃ G' new m, Hid (QS w b G' (pushQ q new m un tr) w' ∧ PushN q l m l.length new ∧ Ltr W G w' G') := by
  have hb := h.gb
  subst hb
  refine (Push_ok h.qa hl hn hsm ⟨hs, hx⟩ un tr hu hf).mono ?_
  rintro e w' ⟨rfl, m, hm, G', new, h1, h2, h3, h4, h5⟩
  exact ⟨rfl, G', new, m, keep ⟨h.ltr h1 (push_nums h.nu h3 (Nat.le_refl _) un tr) h2, h3, h2⟩⟩
theorem Take_qs (h : QS w b G q W) (now room : Int) (hr : room < 9223372036854775808) :
    Calls Try.prog 12 #[.pointer (some ⟨b, 0, none⟩), .int .i64 now, .int .i64 room] W fun e w' => ∃ s ys, e = .returned (.slice s.1 s.2.1 s.2.2) ∧ Hid (TakeP W G q (takeQ q now room) s ys w' ∧ QS w b G (tkQ q now room) w') := by
  have hb := h.gb
  subst hb
  refine (Take_any h.qa now room hr).mono ?_
  rintro e w' ⟨s, ys, rfl, h1⟩
  exact ⟨s, ys, rfl, keep ⟨h1, h.ltr h1.qa (take_nums h.nu now room) h1.lt⟩⟩
/-- What lies in no block of the queue's stays. -/
theorem TakeP.row_kept {R : List En × List CZ} {s : SL} {ys : List CZ} {w1 w2 : World} {G0 G1 : Gq} {q0 : Qm} (h : TakeP W G0 q0 R s ys w1) (hO : ∀ i, G0.O i → i < W.heap.size) {S : Nat → Prop} (hp : Part S w1 w2) (hS : ∀ i, S i → G0.O i) : w2.ownsRow W.heap.size 45 12 (.slice s.1 s.2.1 s.2.2) s.2.1 (flatF CZ.cells ys) :=
  hp.own h.row fun g hg hc => by
    have h1 := (h.row.lt g hg).1
    have h2 := hO _ (hS g hc)
    omega
end
theorem ack_nums {q : Qm} (h : Nums q) (cum : Int) (bl : List (Int × Int)) : Nums (ackQ q cum bl) := by
  refine nums_of (cut_nums h (stp_le q cum)) rfl ?_
  have hm : ∀ (f : Nat → En → En) (hf : ∀ i e, (f i e).c = e.c) (es : List En), (es.mapIdx f).map (fun e => e.c.a) = es.map (fun e => e.c.a) := fun f hf es => by
    apply List.ext_getElem?
    intro j
    rw [List.getElem?_map, List.getElem?_mapIdx, List.getElem?_map]
    cases es[j]? with
    | none => rfl
    | some e => simp [hf]
  have hc := hm (comeE bl) (comeE_c bl) (leftL q cum)
  show (ackE q cum bl).map (fun e => e.c.a) = _
  unfold ackE midL
  split
  · exact hc
  · rw [hm (missE (lasI q cum bl)) (fun i e => by unfold missE; split; (split <;> rfl); rfl)]
    exact hc
theorem Ack_qs {w W : World} {b : Nat} {G : Gq} {q : Qm} (h : QS w b G q W) (cum now : Int) (hcum : 0 ≤ cum ∧ cum < 4294967296) (s0 : SL) (bl : List (Int × Int)) (hl : LR blC W s0 bl) (hap : InF (fun k => W.heap.size ≤ k ∨ k < w.heap.size) s0.1 ∨ bl = []) (hn : s0.2.1 ≤ 1000000) (hok : BlOK bl) (hre : reachedB q cum = true) :
    Calls Try.prog 13 #[.pointer (some ⟨b, 0, none⟩), .int .u32 cum, .slice s0.1 s0.2.1 s0.2.2, .int .i64 now] W fun e w' => e = .returned (ackOut (ackR q cum bl now) true) ∧ Hid (QS w b (cutG G (stp q cum)) (ackQ q cum bl) w' ∧ Part G.O W w') := by
  have hb := h.gb
  subst hb
  refine (Ack_any h.qa h.nu cum now hcum s0 bl hl (hap.imp h.out id) hn hok hre).mono ?_
  rintro e w' ⟨rfl, h1⟩
  exact ⟨rfl, keep ⟨h.ltr h1.qa (ack_nums h.nu cum bl) h1.lt, h1.lt.part⟩⟩
theorem piece_lit (n : Nat) (hn : n ≤ 1000000) (z : Int) (hz : z = (n : Int)) (w : World) : Calls Try.prog 11 #[.int .i64 z] w fun e w' => e = .returned (.agg #[.int .u8 0, .int .u8 3, .int .u32 0, .int .u32 0, .int .u16 0, .int .u16 0, .int .u32 0, .slice none 0 0, .slice none 0 0, .slice none 0 0, .slice none 0 0, .slice (some ⟨w.heap.size + 1, 0, none⟩) n n]) ∧ Hid (ZV w' (pz n (w.heap.size + 1))) ∧ Hid (w.heap.size + 1 < w'.heap.size) ∧ Hid (Below w.heap.size w w') := by
  subst hz
  refine (piece_any n hn w).mono ?_
  rintro e w' ⟨rfl, h1, h2, h3⟩
  exact ⟨rfl, h1, h2, h3⟩
end
end Go.Proofs.Ytffjdknmfmlfnaa
