/- KBG of the stage: texts Xf2b, Xf3b, joined. -/
import Derived.Test.YtnlkdlnmffibhaaGreatKBF
set_option linter.unusedSimpArgs false
set_option linter.unusedVariables false
set_option maxRecDepth 8000
namespace Go.Proofs.YtnlkdlnmffibhaaGreat
open List renaming setIfInBounds_toArray → lA, set_cons_zero → lZ, set_cons_succ → lS
open Go renaming wpAnyH_take → wT
open Go.Act renaming put → aP
section
open Go.RowKit Go.Maps
theorem CfB.all {w : World} {g : Nat} {a p r o i m : Int} (h : CfB w g a p r o i m) : w.cell? ⟨g, 0, none⟩ = some (.int .u32 a) ∧ w.cell? ⟨g, 1, none⟩ = some (.int .u32 p) ∧ w.cell? ⟨g, 2, none⟩ = some (.int .u32 r) ∧ w.cell? ⟨g, 3, none⟩ = some (.int .i64 o) ∧ w.cell? ⟨g, 4, none⟩ = some (.int .i64 i) ∧ w.cell? ⟨g, 5, none⟩ = some (.int .i64 m) := ⟨h.c0, h.c1, h.c2, h.c3, h.c4, h.c5⟩
def x0 (a p r i m : Int) (n : Nat) : Xm := ⟨newQ a, WS.start m, ⟨0, 0, 3000, false⟩, 0, false, r, List.replicate n 0, 0, false, 0, St.new p, newJ i, false⟩
def endC (Qb nb n : Nat) (ws : WS) (r : Int) (b Jb : Nat) : List Value := senC Qb nb n ws r ++ [Value.pointer (some ⟨b, 0, none⟩), Value.pointer (some ⟨Jb, 0, none⟩), Value.bool false]
structure NewX (w : World) (a p r i m : Int) (n : Nat) (g : Xg) (w' : World) : Prop where
  xa : XA w' g (x0 a p r i m n)
  own : ∀ i, g.O i → w.heap.size ≤ i
  be : Below w.heap.size w w'
theorem newX_of {w W1 W2 : World} {a p r i m : Int} {n Qb nb b k N : Nat} {J : Gh} (hq : SenQ w W1 a Qb) (hn : SenN w W1 n nb) (hb1 : Below W1.heap.size W1 W2) (hw1 : Below w.heap.size w W1)
    (hs : SA W2 b k (.slice none 0 0) (St.new p)) (hj : JG W2 J (newJ i)) (hbl : W1.heap.size ≤ b) (hkl : W1.heap.size ≤ k) (hbN : b < N) (hkN : k < N) (hO : ∀ i, J.O i → N ≤ i) (hF : ∀ i, ¬ J.F i) (hN : W1.heap.size ≤ N) (hN2 : N ≤ W2.heap.size) :
    NewX w a p r i m n ⟨W2.heap.size, nb, newG Qb, b, k, .slice none 0 0, J⟩ (W2.alloc (.cells (endC Qb nb n (WS.start m) r b J.b).toArray 72)) := by
  have hl := below_lay W2 (.cells (endC Qb nb n (WS.start m) r b J.b).toArray 72)
  have hblk := heap_alloc_new W2 (.cells (endC Qb nb n (WS.start m) r b J.b).toArray 72)
  have hqb : Qb < W1.heap.size := hq.q.olt _ rfl
  have hnb : nb < W1.heap.size := (Array.getElem?_eq_some_iff.1 hn.r).1
  have hne : Qb ≠ nb := fun e => cells_cells (k := Qb) (k' := nb) hq.q.blk hn.r (by decide) e
  have hsz : W2.heap.size < (W2.alloc (.cells (endC Qb nb n (WS.start m) r b J.b).toArray 72)).heap.size := by simp
  have hjlt : ∀ i, J.O i → i < W2.heap.size := fun i hi => hj.ja.olt i hi
  have hcls : ∀ k' i', Xg.S ⟨W2.heap.size, nb, newG Qb, b, k, .slice none 0 0, J⟩ k' i' → (if i' = W2.heap.size then 0 else if i' = nb then 1 else if i' = Qb then 2 else if i' < N then 3 else 4) = k' ∧ i' < W2.heap.size + 1 ∧ w.heap.size ≤ i' := fun k' i' h => by
    have hl1 := hq.l
    have h12 := hb1.size
    have hw12 := hw1.size
    have hl2 := hn.l
    match k', h with
    | 0, h =>
      have e : i' = W2.heap.size := h
      rw [if_pos e]
      exact ⟨rfl, by omega, by omega⟩
    | 1, h =>
      have e : i' = nb := h
      rw [if_neg (by omega), if_pos e]
      exact ⟨rfl, by omega, by omega⟩
    | 2, h =>
      have e : i' = Qb := h.elim id fun h => h.elim
      rw [if_neg (by omega), if_neg (by omega), if_pos e]
      exact ⟨rfl, by omega, by omega⟩
    | 3, h =>
      have e : i' = b ∨ i' = k := by
        rcases h with h | h | h
        · exact .inl h
        · exact .inr h
        · cases h
      rw [if_neg (by omega), if_neg (by omega), if_neg (by omega), if_pos (by omega)]
      exact ⟨rfl, by omega, by omega⟩
    | 4, h =>
      have e : J.O i' := h.elim id fun h => absurd h (hF _)
      have e1 := hO _ e
      have e2 := hjlt _ e
      rw [if_neg (by omega), if_neg (by omega), if_neg (by omega), if_neg (by omega)]
      exact ⟨rfl, by omega, by omega⟩
    | _ + 5, h => exact h.elim
  refine ⟨⟨?_, ?_, (hq.q.step hb1).step hl, new_nums a, hs.step hl, hj.step hl, fun k' i' h => by have := (hcls k' i' h).2.1; omega, fun k1 k2 i' hne' h1 h2 => hne' ((hcls k1 i' h1).1.symm.trans (hcls k2 i' h2).1)⟩, fun i' hi => by
    obtain ⟨k', hk'⟩ := hi
    exact (hcls k' i' hk').2.2, hw1.trans ((up hb1 hl).mono hw1.size)⟩
  · have e : Xm.cells (x0 a p r i m n) ⟨W2.heap.size, nb, newG Qb, b, k, .slice none 0 0, J⟩ = endC Qb nb n (WS.start m) r b J.b := by
      unfold Xm.cells x0 endC senC
      simp only [List.length_replicate]
      rfl
    rw [e]
    exact hblk
  · have e : (List.replicate n (0 : Int)).map (Value.int .u16) = List.replicate n (Value.int .u16 0) := by simp
    have h1 := blk_step (blk_step hn.r hb1) hl
    rw [← e] at h1
    exact h1
set_option maxHeartbeats 8000000 in
theorem xNew_any (a p r i m : Int) (n : Nat) (ha : 0 ≤ a ∧ a < 4294967296) (hp : 0 ≤ p ∧ p < 4294967296) (hr : 0 ≤ r ∧ r < 4294967296) (hn1 : 1 ≤ n) (hn2 : n ≤ 64) (w : World) : Calls Tryz.prog 12 #[cfg a p r n i m] w fun e w' => ∃ g, e = .returned (.pointer (some ⟨g.b, 0, none⟩)) ∧ Hid (NewX w a p r i m n g w') := by
  have KS := keep (fun W => newSending_any a p r i m n ha hr hn1 hn2 W)
  have KR := keep (fun W => newReceiving_any a p r n i m hp W)
  have HC := keep (CfB.mk (heap_alloc_new w (.cells #[.int .u32 a, .int .u32 p, .int .u32 r, .int .i64 n, .int .i64 i, .int .i64 m] 49)))
  have HB := keep (below_lay w (.cells #[.int .u32 a, .int .u32 p, .int .u32 r, .int .i64 n, .int .i64 i, .int .i64 m] 49))
  replace HC := keep (HC.out.step (Below.refl _ _).drew)
  replace HB := keep HB.out.drew
  have HS0 := keep (show w.heap.size < (w.alloc (.cells #[.int .u32 a, .int .u32 p, .int .u32 r, .int .i64 n, .int .i64 i, .int .i64 m] 49)).drew.heap.size by simp)
  clear ha hp hr hn1 hn2
  unfold cfg at *
  go_enter Tryz.func12, Tryz.ntmps12
  go_wp2_with fail
  refine wp_region_held_drew (S := (fun w' => w'.cell? ⟨w.heap.size, 0, none⟩ = some (.int .u32 a) ∧ w'.cell? ⟨w.heap.size, 1, none⟩ = some (.int .u32 p) ∧ w'.cell? ⟨w.heap.size, 2, none⟩ = some (.int .u32 r) ∧ w'.cell? ⟨w.heap.size, 3, none⟩ = some (.int .i64 (n : Int)) ∧ w'.cell? ⟨w.heap.size, 4, none⟩ = some (.int .i64 i) ∧ w'.cell? ⟨w.heap.size, 5, none⟩ = some (.int .i64 m))) (by kernel_rfl) HC.out.all (fun hHeld => ?_)
  refine wT (i := 0) (oi := ⟨some 3, _, _, _, _, _⟩) (v := ?vr1x0) rfl (by kernel_rfl) (by kernel_rfl) (by kernel_rfl) (fun _ _ _ h => h) (Or.inl ⟨by rfl, ?hyr1x0⟩) (by assumption) ?restr1x0
  case hyr1x0 => (intro wz hSw; (try dsimp only at hSw); go_simp <;> try with_reducible rfl)
  try simp only [aP, lA, lZ, lS]
  refine wT (i := 2) (oi := ⟨some 5, _, _, _, _, _⟩) (v := ?vr2x2) rfl (by kernel_rfl) (by kernel_rfl) (by kernel_rfl) (fun _ _ _ h => h) (Or.inl ⟨by rfl, ?hyr2x2⟩) (by assumption) ?restr2x2
  case hyr2x2 => (intro wz hSw; (try dsimp only at hSw); go_simp <;> try with_reducible rfl)
  try simp only [aP, lA, lZ, lS]
  refine wpAnyH_ready (rs := [1]) (by kernel_rfl) (by simp) (AllReadyH.cons (o := ⟨some 4, _, _, _, _, _⟩) rfl (fun K hK => ?_) AllReadyH.nil)
  go_simp
  go_at_call 24
  refine (KS.out _).mono ?_
  rintro e w1 ⟨Qb, nb, rfl, hq, hn, hb⟩
  replace HC := keep (HC.out.step hb)
  have HS := keep (And.intro hq (And.intro hn hb))
  clear hq hn hb
  dsimp only [senC]
  (try go_wp2_with fail)
  refine hK.out _ _ HC.out.all (fun hHeld => ?_)
  clear hK K
  try simp only [aP, lA, lZ, lS]
  refine wpAnyH_ready (rs := [3]) (by kernel_rfl) (by simp) (AllReadyH.cons (o := ⟨some 6, _, _, _, _, _⟩) rfl (fun K hK => ?_) AllReadyH.nil)
  go_simp
  go_at_call 25
  refine (KR.out _).mono ?_
  rintro e w2 ⟨b, k, J, N, rfl, hs, hj, hb1, hk1, hb2, hk2, hO, hF, hN, hb⟩
  replace HC := keep (HC.out.step hb)
  have HR := keep (And.intro hs (And.intro hj (And.intro hb1 (And.intro hk1 (And.intro hb2 (And.intro hk2 (And.intro hO (And.intro hF (And.intro hN hb)))))))))
  clear hs hj hb1 hk1 hb2 hk2 hO hF hN hb
  (try go_wp2_with fail)
  refine hK.out _ _ HC.out.all (fun hHeld => ?_)
  clear hK K
  try simp only [aP, lA, lZ, lS]
  refine wT (i := 4) (oi := ⟨some 7, _, _, _, _, _⟩) (v := ?vr3x4) rfl (by kernel_rfl) (by kernel_rfl) (by kernel_rfl) (fun _ _ _ h => h) (Or.inl ⟨by rfl, ?hyr3x4⟩) (by assumption) ?restr3x4
  case hyr3x4 => (intro wz hSw; (try dsimp only at hSw); go_simp <;> try with_reducible rfl)
  try simp only [aP, lA, lZ, lS]
  refine wpAnyH_ready (rs := [5]) (by kernel_rfl) (by simp) (AllReadyH.cons (o := ⟨some 8, _, _, _, _, _⟩) rfl (fun K hK => ?_) AllReadyH.nil)
  go_simp
  refine hK.out _ _ (HC.out.lay _).all (fun hHeld => ?_)
  clear hK K
  try simp only [aP, lA, lZ, lS]
  refine wT (i := 6) (oi := ⟨some 2, _, _, _, _, _⟩) (v := ?vr4x6) rfl (by kernel_rfl) (by kernel_rfl) (by kernel_rfl) (fun _ _ _ h => h) (Or.inl ⟨by rfl, ?hyr4x6⟩) (by assumption) ?restr4x6
  case hyr4x6 => (intro wz hSw; (try dsimp only at hSw); go_simp <;> try with_reducible rfl)
  try simp only [aP, lA, lZ, lS]
  refine wpAnyH_done (by kernel_rfl) ?_ _
  go_wp2
  go_ret
  obtain ⟨hs, hj, hb1, hk1, hb2, hk2, hO, hF, hN, hb⟩ := HR.out
  obtain ⟨hq, hn, hbs⟩ := HS.out
  have hN2 : N ≤ w2.heap.size := by
    have h1 := hj.ja.olt _ hj.ja.ob
    have h2 := hO _ hj.ja.ob
    omega
  have hsz := HS0.out
  have hw0 := hbs.size
  have hx := newX_of (m := m) (r := r) hq hn hb hbs hs hj hb1 hk1 hb2 hk2 hO hF hN hN2
  exact ⟨⟨w2.heap.size, nb, newG Qb, b, k, .slice none 0 0, J⟩, rfl, keep ⟨hx.xa, fun i hi => Nat.le_trans HB.out.size (hx.own i hi), HB.out.trans (hx.be.mono HB.out.size)⟩⟩
end
section
open Go.RowKit Go.Maps
theorem piece_in {k : Nat} {bs : List UInt8} {i : Nat} (hk : 0 < k) (hi : i < cnt k bs.length) : 0 < (piece k bs i).length ∧ (piece k bs i).length ≤ k := by
  unfold cnt at hi
  have h1 := (Nat.le_div_iff_mul_le hk).1 (show i + 1 ≤ (bs.length + k - 1) / k from hi)
  rw [Nat.add_mul, Nat.one_mul] at h1
  unfold piece
  rw [List.length_take, List.length_drop]
  constructor <;> omega
theorem xpush_call {w : World} {g : Xg} {x : Xm} (h : XA w g x) {B0 : Nat} (hO : ∀ i, g.Q.O i → i < B0) {A : Option Addr} {n c : Nat} {l : List CX} {M : Msg} {ssn : Int} {k : Nat} (hcs : CS w A n c l) (hpl : ∀ y ∈ l, Plain y) (hch : l.map CX.ch = splitL M 0 ssn k) (hrow : ∀ a, A = some a → B0 ≤ a.block) (hty : ∀ y ∈ l, TY w y.da.1) (h0 : 0 < M.da.length) (hk : 0 < k ∧ k ≤ 1172) (hn : n ≤ 1000000) (hf : ¬ 1024 < x.q.es.length + cnt k M.da.length) :
    Calls Tryz.prog 35 #[.pointer (some ⟨g.Q.b, 0, none⟩), .slice A n c, .int .i64 (-1), .int .i64 (-1)] w fun e w' => e = .returned (.int .i64 0) ∧ ∃ Q' new m, Hid (XA w' { g with Q := Q' } { x with q := pushQ x.q new m (-1) (-1) } ∧ Xl w g w' { g with Q := Q' } ∧ NewE M ssn k x.q new m) := by
  obtain ⟨ht, hlt⟩ := h.tight
  have hll : l.length = cnt k M.da.length := by
    have := congrArg List.length hch
    rwa [List.length_map, splitL_len] at this
  have hget : ∀ y ∈ l, y.kd = 0 ∧ 0 < y.da.2.1 ∧ y.bs.length ≤ 1172 := fun y hy => by
    obtain ⟨i, hi, rfl⟩ := List.getElem_of_mem hy
    have h1 := congrArg (fun z => z[i]?) hch
    rw [List.getElem?_map, List.getElem?_eq_getElem hi, splitL_get (by omega)] at h1
    injection h1 with h1
    have e1 : l[i].kd = 0 := congrArg Ch.kd h1
    have e2 : l[i].bs = piece k M.da i := congrArg Ch.da h1
    have h2 := piece_in (bs := M.da) hk.1 (show i < cnt k M.da.length by omega)
    have h3 := (hcs.2.2.2 l[i] hy).bs.len
    rw [e2] at h3
    exact ⟨e1, by omega, by rw [e2]; omega⟩
  have hzs : ZS w (A, n, c) (l.map cz) := ⟨⟨by rw [List.length_map]; exact hcs.1, hcs.2.1, by rw [cz_flat]; exact hcs.2.2.1⟩, fun z hz => by
    obtain ⟨y, hy, rfl⟩ := List.mem_map.1 hz
    exact cz_zv (hcs.2.2.2 y hy) (hpl y hy)⟩
  refine (Push_ok ht.qa hzs hn (fun z hz => ?_) ⟨fun a ea ho => ?_, fun z hz B hB a ea => ?_⟩ (-1) (-1) ?_ (by rw [List.length_map, hll]; exact hf)).mono ?_
  · obtain ⟨y, hy, rfl⟩ := List.mem_map.1 hz
    exact cz_sm (hcs.2.2.2 y hy) (hpl y hy) (by have := (hget y hy).2.2; omega)
  · have h1 := hrow a ea
    have h2 := hO _ (h.qa.tight.2 _ ho)
    omega
  · obtain ⟨y, hy, rfl⟩ := List.mem_map.1 hz
    rcases cz_ads (hpl y hy) B hB with e | e
    · rw [e] at ea
      cases ea
    · rw [e] at ea
      obtain ⟨cs, hc⟩ := hty y hy a ea
      exact h.qa.tight_no hc (by decide) (by decide) (by decide) (by decide)
  · rintro (h1 | h1)
    · have := congrArg List.length h1
      rw [List.length_map, hll] at this
      have h2 := cnt_pos hk.1 h0
      rw [List.length_nil] at this
      omega
    · rw [List.any_eq_true] at h1
      obtain ⟨z, hz, hu⟩ := h1
      obtain ⟨y, hy, rfl⟩ := List.mem_map.1 hz
      have h2 := hget y hy
      unfold unfitB at hu
      rw [show (cz y).kd = 0 from h2.1] at hu
      have h3 : ((cz y).da.2.1 == 0) = false := by
        rw [show (cz y).da.2.1 = y.da.2.1 from rfl]
        have := h2.2.1
        simp
        omega
      rw [h3] at hu
      cases hu
  · rintro e w' ⟨rfl, m, hm, G', new, h1, h2, h3, h4, h5⟩
    obtain ⟨u1, u2⟩ := ht.upQ h1 (push_nums h.nu h3 (Nat.le_refl _) (-1) (-1)) h2
    exact ⟨rfl, G', new, m, keep ⟨u1, hlt.trans u2, newE_of hch h3 hcs.2.2.2⟩⟩
structure SpR (w W : World) (A : Option Addr) (n c : Nat) (l : List CX) (M : Msg) (ssn : Int) (k : Nat) : Prop where
  cs : CS W A n c l
  pl : ∀ y ∈ l, Plain y
  ch : l.map CX.ch = splitL M 0 ssn k
  row : ∀ a, A = some a → w.heap.size ≤ a.block
  ty : ∀ y ∈ l, TY W y.da.1
theorem SpR.step {w W W' : World} {A : Option Addr} {n c : Nat} {l : List CX} {M : Msg} {ssn : Int} {k : Nat} (h : SpR w W A n c l M ssn k) (hb : Below W.heap.size W W') : SpR w W' A n c l M ssn k :=
  ⟨h.cs.step hb, h.pl, h.ch, h.row, fun y hy a ea => by
    obtain ⟨cs, hc⟩ := h.ty y hy a ea
    exact ⟨cs, blk_step hc hb⟩⟩
def mbx (s : Nat) (pp : Int) (d1 : Option Addr) (d2 d3 : Nat) : List Value := [.int .u16 (s : Int), .bool false, .int .u32 pp, .slice d1 d2 d3]
def MBx (W : World) (B : Nat) (s : Nat) (pp : Int) (d1 : Option Addr) (d2 d3 : Nat) : Prop := W.heap[B]? = some (.cells #[.int .u16 (s : Int), .bool false, .int .u32 pp, .slice d1 d2 d3] 33 (0, 0))
theorem MBx.all {W : World} {B s : Nat} {pp : Int} {d1 : Option Addr} {d2 d3 : Nat} (h : MBx W B s pp d1 d2 d3) : W.cell? ⟨B, 0, none⟩ = some (.int .u16 (s : Int)) ∧ W.cell? ⟨B, 1, none⟩ = some (.bool false) ∧ W.cell? ⟨B, 2, none⟩ = some (.int .u32 pp) ∧ W.cell? ⟨B, 3, none⟩ = some (.slice d1 d2 d3) := ⟨upd_cell h 0 _ rfl, upd_cell h 1 _ rfl, upd_cell h 2 _ rfl, upd_cell h 3 _ rfl⟩
theorem MBx.drew {W : World} {B s : Nat} {pp : Int} {d1 : Option Addr} {d2 d3 : Nat} (h : MBx W B s pp d1 d2 d3) : MBx W.drew B s pp d1 d2 d3 := h
theorem XA.drew {w : World} {g : Xg} {x : Xm} (h : XA w g x) : XA w.drew g x := h.step (Below.refl _ _).drew
theorem XA.n_at {w : World} {g : Xg} {x : Xm} (h : XA w g x) {s : Nat} {v : Int} (hs : x.nl[s]? = some v) : w.cell? ⟨g.nb, s, none⟩ = some (.int .u16 v) ∧ w.frozen? ⟨g.nb, s, none⟩ = false := ⟨upd_cell h.num s _ (by simp [hs]), upd_fz h.num s⟩
theorem XA.c0 {w : World} {g : Xg} {x : Xm} (h : XA w g x) : w.cell? ⟨g.b, 0, none⟩ = some (.pointer (some ⟨g.Q.b, 0, none⟩)) := h.at_ 0 _ rfl
theorem XA.c14 {w : World} {g : Xg} {x : Xm} (h : XA w g x) : w.cell? ⟨g.b, 14, none⟩ = some (.slice (some ⟨g.nb, 0, none⟩) x.nl.length x.nl.length) := h.at_ 14 _ rfl
theorem XA.c4 {w : World} {g : Xg} {x : Xm} (h : XA w g x) : w.cell? ⟨g.b, 4, none⟩ = some (.int .i64 x.ws.mt) := h.at_ 4 _ rfl
set_option maxHeartbeats 8000000 in
theorem xpush_any {w : World} {g : Xg} {x : Xm} (h : XA w g x) {s : Nat} {pp ssn : Int} {d1 : Option Addr} {d2 d3 : Nat} {bs : List UInt8} (hs : s < 65536) (hpp : 0 ≤ pp ∧ pp < 4294967296) (hbs : BS w d1 d2 d3 bs) (hn : x.nl[s]? = some ssn) (hsn : 0 ≤ ssn ∧ ssn < 65535) {k : Nat} (hk : max 1 (min 1172 (x.ws.mt - 28)) = (k : Int)) (hmt : 0 ≤ x.ws.mt ∧ x.ws.mt ≤ 65536) (h0 : 0 < bs.length) (h2 : bs.length ≤ 2000) (hl : octs x.q.es [2, 0] + bs.length ≤ 65536) (hf : ¬ 1024 < x.q.es.length + cnt k bs.length) :
    Calls Tryz.prog 16 #[.pointer (some ⟨g.b, 0, none⟩), .agg #[.int .u16 (s : Int), .bool false, .int .u32 pp, .slice d1 d2 d3], .int .i64 (-1), .int .i64 (-1)] w fun e w' => e = .returned (.int .i64 0) ∧ ∃ Q' new m, Hid (XA w' { g with Q := Q' } { x with q := pushQ x.q new m (-1) (-1), nl := x.nl.set s (ssn + 1) } ∧ Xl w g w' { g with Q := Q' } ∧ NewE ⟨(s : Int), false, pp, bs⟩ ssn k x.q new m) := by
  have hlen : s < x.nl.length := (List.getElem?_eq_some_iff.1 hn).1
  have hk1 : 0 < k ∧ k ≤ 1172 := by omega
  have hb0 := below_lay w (.cells #[.int .u16 (s : Int), .bool false, .int .u32 pp, .slice d1 d2 d3] 33)
  have H0 := keep (h.step hb0)
  have HB0 := keep hb0
  have HM := keep (show MBx (w.alloc (.cells #[.int .u16 (s : Int), .bool false, .int .u32 pp, .slice d1 d2 d3] 33)) w.heap.size s pp d1 d2 d3 from heap_alloc_new w _)
  have hlt0 : w.heap.size < (w.alloc (.cells #[.int .u16 (s : Int), .bool false, .int .u32 pp, .slice d1 d2 d3] 33)).heap.size := by simp
  have HLT := keep hlt0
  have HW := keep h
  have KS := keep (fun W (H : XA W g x) => sends_at g.b _ _ _ (s : Int) W H.c14 (by omega) (by omega))
  have KP := keep (fun W (H : XA W g x) => piece_at g.b x.ws.mt W H.c4 hmt.1 hmt.2 (k : Int) hk)
  have hd2 : d2 = bs.length := hbs.len
  have KSp := keep (fun W (hb : Below w.heap.size w W) => (Split_ok ⟨(s : Int), false, pp, (d1, d2, d3), bs⟩ 0 ssn k W ⟨show (0 : Int) ≤ (s : Int) ∧ (s : Int) < 65536 by omega, hpp, hbs.step hb⟩ ⟨by decide, by decide⟩ ⟨hsn.1, by omega⟩ hk1.1 hk1.2 h0 h2).mono (fun e w' hh => show ∃ A c l, e = .returned (.tuple #[.slice A (cnt k bs.length) c, .int .i64 0]) ∧ Hid (SpR w w' A (cnt k bs.length) c l ⟨(s : Int), false, pp, bs⟩ ssn k) ∧ Hid (Below W.heap.size W w') from by
    obtain ⟨A, c, l, rfl, h1, h2, h3, h4, h5, h6⟩ := hh
    exact ⟨A, c, l, rfl, keep ⟨h1, h2, h3, fun a ea => by
      have h7 := (h5.lt a.block (by rw [ea]; rfl)).1
      have h8 := hb.size
      omega, h6⟩, keep h4⟩))
  have hcn : cnt k bs.length ≤ 2000 := by
    unfold cnt
    refine Nat.le_trans (Nat.div_le_of_le_mul (n := bs.length) ?_) h2
    have h9 : bs.length * 1 ≤ bs.length * k := Nat.mul_le_mul_left _ hk1.1
    have h10 : k * 1 ≤ k * bs.length := Nat.mul_le_mul_left _ h0
    rw [Nat.mul_comm k bs.length] at *
    cases hb : bs.length with
    | zero => omega
    | succ q =>
      rw [hb] at h9 h10
      have : (q + 1) * k = q * k + k := Nat.succ_mul q k
      have : q * 1 ≤ q * k := Nat.mul_le_mul_left _ hk1.1
      omega
  have KPu := keep (fun (W : World) (A : Option Addr) (c : Nat) (l : List CX) (H : XA W g x) (hp : SpR w W A (cnt k bs.length) c l ⟨(s : Int), false, pp, bs⟩ ssn k) => xpush_call H (B0 := w.heap.size) (fun i hi => h.lt 2 i (.inl hi)) hp.cs hp.pl hp.ch hp.row hp.ty h0 hk1 (by omega) hf)
  have KL := keep (fun (W : World) (H : XA W g x) => Left_any H.qa)
  obtain ⟨lf, hlf⟩ : ∃ lf, octs x.q.es [2, 0] = lf := ⟨_, rfl⟩
  rw [hlf] at hl KL
  have hl1 : (lf : Int) + (d2 : Int) ≤ 65536 := by omega
  have hl9 : ¬ (65536 : Int) < (lf : Int) + (d2 : Int) := by omega
  have hl0 : (0 : Int) ≤ (lf : Int) + (d2 : Int) := by omega
  have hw1 : IntKind.i64.wrap ((lf : Int) + (d2 : Int)) = (lf : Int) + (d2 : Int) := wrap_small hl0 (by omega)
  have hsi : (s : Int) < (x.nl.length : Int) := by omega
  have hs0 : (0 : Int) ≤ (s : Int) := by omega
  have HN := keep hn
  have HSN := keep hsn
  have HLN := keep hlen
  have c14 := H0.out.c14
  have hdec : decide ((s : Int) < (x.nl.length : Int)) = true := decide_eq_true hsi
  have KS0 := keep (KS.out _ H0.out)
  rw [hdec] at KS0
  obtain ⟨m0, m1, m2, m3⟩ := HM.out.all
  have hw16 : IntKind.u16.wrap (ssn + 1) = ssn + 1 := by simp [IntKind.wrap, IntKind.signed, IntKind.bits]; omega
  have hw16' : (ssn + 1) % 65536 = ssn + 1 := by omega
  have n0 := H0.out.n_at hn
  obtain ⟨n0, _⟩ := n0
  have HD2 := keep hd2
  clear hd2
  have HNO := keep (show ¬ g.O w.heap.size from fun ho => absurd (h.olt ho) (Nat.lt_irrefl _))
  obtain ⟨cn, hcn'⟩ : ∃ cn, cnt k bs.length = cn := ⟨_, rfl⟩
  rw [hcn'] at KSp KPu
  clear hcn'
  clear h hbs hn hsn hk hmt h0 h2 hl hf hlen hk1 hb0 hlt0 hpp hcn hlf hs hdec
  go_enter Tryz.func16, Tryz.ntmps16
  go_wp2_with (go_at_call 31; refine KS0.out.mono ?_; rintro e w' ⟨rfl, rfl⟩)
  have H0 := keep H0.out.drew
  have HM := keep HM.out.drew
  have HB0 := keep HB0.out.drew
  refine wp_region_held_drew (S := (fun w' => (w'.cell? ⟨w.heap.size, 0, none⟩ = some (.int .u16 (s : Int)) ∧ w'.cell? ⟨w.heap.size, 1, none⟩ = some (.bool false) ∧ w'.cell? ⟨w.heap.size, 2, none⟩ = some (.int .u32 pp) ∧ w'.cell? ⟨w.heap.size, 3, none⟩ = some (.slice d1 d2 d3)) ∧ w'.cell? ⟨g.b, 14, none⟩ = some (.slice (some ⟨g.nb, 0, none⟩) x.nl.length x.nl.length) ∧ w'.cell? ⟨g.nb, s, none⟩ = some (.int .u16 ssn))) (by kernel_rfl) ⟨HM.out.all, H0.out.c14, (H0.out.n_at HN.out).1⟩ (fun hHeld => ?_)
  refine wT (i := 0) (oi := ⟨some 18, _, _, _, _, _⟩) (v := ?vp1x0) rfl (by kernel_rfl) (by kernel_rfl) (by kernel_rfl) (fun _ _ _ h => h) (Or.inl ⟨by rfl, ?hyp1x0⟩) (by assumption) ?restp1x0
  case hyp1x0 => (intro wz hSw; (try dsimp only at hSw); go_simp <;> try with_reducible rfl)
  try simp only [aP, lA, lZ, lS]
  refine wT (i := 1) (oi := ⟨some 19, _, _, _, _, _⟩) (v := ?vp2x1) rfl (by kernel_rfl) (by kernel_rfl) (by kernel_rfl) (fun _ _ _ h => h) (Or.inl ⟨by rfl, ?hyp2x1⟩) (by assumption) ?restp2x1
  case hyp2x1 => (intro wz hSw; (try dsimp only at hSw); go_simp <;> try with_reducible rfl)
  try simp only [aP, lA, lZ, lS]
  refine wT (i := 2) (oi := ⟨some 20, _, _, _, _, _⟩) (v := ?vp3x2) rfl (by kernel_rfl) (by kernel_rfl) (by kernel_rfl) (fun _ _ _ h => h) (Or.inl ⟨by rfl, ?hyp3x2⟩) (by assumption) ?restp3x2
  case hyp3x2 => (intro wz hSw; (try dsimp only at hSw); go_simp <;> try with_reducible rfl)
  try simp only [aP, lA, lZ, lS]
  refine wT (i := 3) (oi := ⟨some 21, _, _, _, _, _⟩) (v := ?vp4x3) rfl (by kernel_rfl) (by kernel_rfl) (by kernel_rfl) (fun _ _ _ h => h) (Or.inl ⟨by rfl, ?hyp4x3⟩) (by assumption) ?restp4x3
  case hyp4x3 => (intro wz hSw; (try dsimp only at hSw); go_simp <;> try with_reducible rfl)
  try simp only [aP, lA, lZ, lS]
  refine wT (i := 4) (oi := ⟨some 22, _, _, _, _, _⟩) (v := ?vp5x4) rfl (by kernel_rfl) (by kernel_rfl) (by kernel_rfl) (fun _ _ _ h => h) (Or.inl ⟨by rfl, ?hyp5x4⟩) (by assumption) ?restp5x4
  case hyp5x4 => (intro wz hSw; (try dsimp only at hSw); go_simp <;> try with_reducible rfl)
  try simp only [aP, lA, lZ, lS]
  refine wT (i := 5) (oi := ⟨some 23, _, _, _, _, _⟩) (v := ?vp6x5) rfl (by kernel_rfl) (by kernel_rfl) (by kernel_rfl) (fun _ _ _ h => h) (Or.inl ⟨by rfl, ?hyp6x5⟩) (by assumption) ?restp6x5
  case hyp6x5 => (intro wz hSw; (try dsimp only at hSw); go_simp <;> try with_reducible rfl)
  try simp only [aP, lA, lZ, lS]
  refine wT (i := 6) (oi := ⟨some 24, _, _, _, _, _⟩) (v := ?vp7x6) rfl (by kernel_rfl) (by kernel_rfl) (by kernel_rfl) (fun _ _ _ h => h) (Or.inl ⟨by rfl, ?hyp7x6⟩) (by assumption) ?restp7x6
  case hyp7x6 => (intro wz hSw; (try dsimp only at hSw); go_simp <;> try with_reducible rfl)
  try simp only [aP, lA, lZ, lS]
  refine wT (i := 7) (oi := ⟨some 25, _, _, _, _, _⟩) (v := ?vp8x7) rfl (by kernel_rfl) (by kernel_rfl) (by kernel_rfl) (fun _ _ _ h => h) (Or.inl ⟨by rfl, ?hyp8x7⟩) (by assumption) ?restp8x7
  case hyp8x7 => (intro wz hSw; (try dsimp only at hSw); go_simp <;> try with_reducible rfl)
  try simp only [aP, lA, lZ, lS]
  refine wT (i := 8) (oi := ⟨some 26, _, _, _, _, _⟩) (v := ?vp9x8) rfl (by kernel_rfl) (by kernel_rfl) (by kernel_rfl) (fun _ _ _ h => h) (Or.inl ⟨by rfl, ?hyp9x8⟩) (by assumption) ?restp9x8
  case hyp9x8 => (intro wz hSw; (try dsimp only at hSw); go_simp <;> try with_reducible rfl)
  try simp only [aP, lA, lZ, lS]
  refine wT (i := 9) (oi := ⟨some 27, _, _, _, _, _⟩) (v := ?vp10x9) rfl (by kernel_rfl) (by kernel_rfl) (by kernel_rfl) (fun _ _ _ h => h) (Or.inl ⟨by rfl, ?hyp10x9⟩) (by assumption) ?restp10x9
  case hyp10x9 => (intro wz hSw; (try dsimp only at hSw); go_simp <;> try with_reducible rfl)
  try simp only [aP, lA, lZ, lS]
  refine wpAnyH_ready (rs := [10]) (by kernel_rfl) (by simp) (AllReadyH.cons (o := ⟨some 28, _, _, _, _, _⟩) rfl (fun K hK => ?_) AllReadyH.nil)
  go_simp
  go_at_call 33
  refine (KP.out _ H0.out).mono ?_
  rintro e w' ⟨rfl, rfl⟩
  (try go_wp2_with fail)
  refine hK.out _ _ ⟨HM.out.all, H0.out.c14, (H0.out.n_at HN.out).1⟩ (fun hHeld => ?_)
  clear hK K
  try simp only [aP, lA, lZ, lS]
  refine wpAnyH_ready (rs := [11]) (by kernel_rfl) (by simp) (AllReadyH.cons (o := ⟨some 29, _, _, _, _, _⟩) rfl (fun K hK => ?_) AllReadyH.nil)
  go_simp
  go_at_call 32
  refine (KSp.out _ HB0.out).mono ?_
  rintro e w2 ⟨A, c, l, rfl, HSp, HB2⟩
  have H2 := keep (H0.out.step HB2.out)
  have HM2 := keep (show MBx w2 w.heap.size s pp d1 d2 d3 from blk_step HM.out HB2.out)
  (try go_wp2_with fail)
  refine hK.out _ _ ⟨HM2.out.all, H2.out.c14, (H2.out.n_at HN.out).1⟩ (fun hHeld => ?_)
  clear hK K
  try simp only [aP, lA, lZ, lS]
  refine wT (i := 12) (oi := ⟨some 17, _, _, _, _, _⟩) (v := ?vp11x12) rfl (by kernel_rfl) (by kernel_rfl) (by kernel_rfl) (fun _ _ _ h => h) (Or.inl ⟨by rfl, ?hyp11x12⟩) (by assumption) ?restp11x12
  case hyp11x12 => (intro wz hSw; (try dsimp only at hSw); go_simp <;> try with_reducible rfl)
  try simp only [aP, lA, lZ, lS]
  refine wT (i := 13) (oi := ⟨some 30, _, _, _, _, _⟩) (v := ?vp12x13) rfl (by kernel_rfl) (by kernel_rfl) (by kernel_rfl) (fun _ _ _ h => h) (Or.inl ⟨by rfl, ?hyp12x13⟩) (by assumption) ?restp12x13
  case hyp12x13 => (intro wz hSw; (try dsimp only at hSw); go_simp <;> try with_reducible rfl)
  try simp only [aP, lA, lZ, lS]
  refine wT (i := 14) (oi := ⟨some 31, _, _, _, _, _⟩) (v := ?vp13x14) rfl (by kernel_rfl) (by kernel_rfl) (by kernel_rfl) (fun _ _ _ h => h) (Or.inl ⟨by rfl, ?hyp13x14⟩) (by assumption) ?restp13x14
  case hyp13x14 => (intro wz hSw; (try dsimp only at hSw); go_simp <;> try with_reducible rfl)
  try simp only [aP, lA, lZ, lS]
  refine wT (i := 15) (oi := ⟨some 9, _, _, _, _, _⟩) (v := ?vp14x15) rfl (by kernel_rfl) (by kernel_rfl) (by kernel_rfl) (fun _ _ _ h => h) (Or.inl ⟨by rfl, ?hyp14x15⟩) (by assumption) ?restp14x15
  case hyp14x15 => (intro wz hSw; (try dsimp only at hSw); go_simp <;> try with_reducible rfl)
  try simp only [aP, lA, lZ, lS]
  refine wT (i := 16) (oi := ⟨some 10, _, _, _, _, _⟩) (v := ?vp15x16) rfl (by kernel_rfl) (by kernel_rfl) (by kernel_rfl) (fun _ _ _ h => h) (Or.inl ⟨by rfl, ?hyp15x16⟩) (by assumption) ?restp15x16
  case hyp15x16 => (intro wz hSw; (try dsimp only at hSw); go_simp <;> try with_reducible rfl)
  try simp only [aP, lA, lZ, lS]
  refine wpAnyH_done (by kernel_rfl) ?_ _
  go_wp2
  have H3 := keep H2.out.drew
  have HM3 := keep HM2.out.drew
  have HSp3 := keep (HSp.out.step (Below.refl _ _).drew)
  have HB3 := keep (HB0.out.trans (HB2.out.drew.mono HB0.out.size))
  refine wp_region_held_drew (S := (fun w' => w'.cell? ⟨g.b, 0, none⟩ = some (.pointer (some ⟨g.Q.b, 0, none⟩)) ∧ w'.cell? ⟨w.heap.size, 3, none⟩ = some (.slice d1 d2 d3))) (by kernel_rfl) ⟨H3.out.c0, HM3.out.all.2.2.2⟩ (fun hHeld => ?_)
  refine wT (i := 0) (oi := ⟨some 35, _, _, _, _, _⟩) (v := ?vl1x0) rfl (by kernel_rfl) (by kernel_rfl) (by kernel_rfl) (fun _ _ _ h => h) (Or.inl ⟨by rfl, ?hyl1x0⟩) (by assumption) ?restl1x0
  case hyl1x0 => (intro wz hSw; (try dsimp only at hSw); go_simp <;> try with_reducible rfl)
  try simp only [aP, lA, lZ, lS]
  refine wT (i := 1) (oi := ⟨some 36, _, _, _, _, _⟩) (v := ?vl2x1) rfl (by kernel_rfl) (by kernel_rfl) (by kernel_rfl) (fun _ _ _ h => h) (Or.inl ⟨by rfl, ?hyl2x1⟩) (by assumption) ?restl2x1
  case hyl2x1 => (intro wz hSw; (try dsimp only at hSw); go_simp <;> try with_reducible rfl)
  try simp only [aP, lA, lZ, lS]
  refine wT (i := 2) (oi := ⟨some 37, _, _, _, _, _⟩) (v := ?vl3x2) rfl (by kernel_rfl) (by kernel_rfl) (by kernel_rfl) (fun _ _ _ h => h) (Or.inl ⟨by rfl, ?hyl3x2⟩) (by assumption) ?restl3x2
  case hyl3x2 => (intro wz hSw; (try dsimp only at hSw); go_simp <;> try with_reducible rfl)
  try simp only [aP, lA, lZ, lS]
  refine wT (i := 3) (oi := ⟨some 38, _, _, _, _, _⟩) (v := ?vl4x3) rfl (by kernel_rfl) (by kernel_rfl) (by kernel_rfl) (fun _ _ _ h => h) (Or.inl ⟨by rfl, ?hyl4x3⟩) (by assumption) ?restl4x3
  case hyl4x3 => (intro wz hSw; (try dsimp only at hSw); go_simp <;> try with_reducible rfl)
  try simp only [aP, lA, lZ, lS]
  refine wT (i := 5) (oi := ⟨some 40, _, _, _, _, _⟩) (v := ?vl5x5) rfl (by kernel_rfl) (by kernel_rfl) (by kernel_rfl) (fun _ _ _ h => h) (Or.inl ⟨by rfl, ?hyl5x5⟩) (by assumption) ?restl5x5
  case hyl5x5 => (intro wz hSw; (try dsimp only at hSw); go_simp <;> try with_reducible rfl)
  try simp only [aP, lA, lZ, lS]
  refine wT (i := 6) (oi := ⟨some 41, _, _, _, _, _⟩) (v := ?vl6x6) rfl (by kernel_rfl) (by kernel_rfl) (by kernel_rfl) (fun _ _ _ h => h) (Or.inl ⟨by rfl, ?hyl6x6⟩) (by assumption) ?restl6x6
  case hyl6x6 => (intro wz hSw; (try dsimp only at hSw); go_simp <;> try with_reducible rfl)
  try simp only [aP, lA, lZ, lS]
  refine wT (i := 7) (oi := ⟨some 42, _, _, _, _, _⟩) (v := ?vl7x7) rfl (by kernel_rfl) (by kernel_rfl) (by kernel_rfl) (fun _ _ _ h => h) (Or.inl ⟨by rfl, ?hyl7x7⟩) (by assumption) ?restl7x7
  case hyl7x7 => (intro wz hSw; (try dsimp only at hSw); go_simp <;> try with_reducible rfl)
  try simp only [aP, lA, lZ, lS]
  refine wpAnyH_ready (rs := [4]) (by kernel_rfl) (by simp) (AllReadyH.cons (o := ⟨some 39, _, _, _, _, _⟩) rfl (fun K hK => ?_) AllReadyH.nil)
  go_simp
  go_at_call 34
  refine (KL.out _ H3.out).mono ?_
  rintro e w4 ⟨rfl, hb4⟩
  have H4 := keep (H3.out.step hb4)
  have HM4 := keep (show MBx w4 w.heap.size s pp d1 d2 d3 from blk_step HM3.out hb4)
  have HSp4 := keep (HSp3.out.step hb4)
  have HB4 := keep (HB3.out.trans (hb4.mono HB3.out.size))
  clear hb4
  (try go_wp2_with fail)
  refine hK.out _ _ ⟨H4.out.c0, HM4.out.all.2.2.2⟩ (fun hHeld => ?_)
  clear hK K
  try simp only [aP, lA, lZ, lS]
  refine wT (i := 8) (oi := ⟨some 43, _, _, _, _, _⟩) (v := ?vl8x8) rfl (by kernel_rfl) (by kernel_rfl) (by kernel_rfl) (fun _ _ _ h => h) (Or.inl ⟨by rfl, ?hyl8x8⟩) (by assumption) ?restl8x8
  case hyl8x8 => (intro wz hSw; (try dsimp only at hSw); go_simp <;> try with_reducible rfl)
  try simp only [aP, lA, lZ, lS]
  refine wT (i := 9) (oi := ⟨some 44, _, _, _, _, _⟩) (v := ?vl9x9) rfl (by kernel_rfl) (by kernel_rfl) (by kernel_rfl) (fun _ _ _ h => h) (Or.inl ⟨by rfl, ?hyl9x9⟩) (by assumption) ?restl9x9
  case hyl9x9 => (intro wz hSw; (try dsimp only at hSw); go_simp <;> try with_reducible rfl)
  try simp only [aP, lA, lZ, lS]
  refine wpAnyH_done (by kernel_rfl) ?_ _
  have c0 := H4.out.c0
  have KPu4 := keep (KPu.out w4 A c l H4.out HSp4.out)
  go_wp2_with (first
    | (go_at_call 35; refine KPu4.out.mono ?_; rintro e w5 ⟨rfl, Q', new, m, H5⟩
       have HM5 := keep (show MBx w5 w.heap.size s pp d1 d2 d3 from (H5.out.2.1.part.block _ (Array.getElem?_eq_some_iff.1 HM4.out).1 HNO.out).trans HM4.out)
       obtain ⟨m0, m1, m2, m3⟩ := HM5.out.all))
  have H6 := keep (show XA w5.drew { g with Q := Q' } { x with q := pushQ x.q new m (-1) (-1) } from H5.out.1.drew)
  have HM6 := keep HM5.out.drew
  have n6 := H6.out.n_at (s := s) (v := ssn) HN.out
  obtain ⟨n6, f6⟩ := n6
  have H7 := keep (H6.out.putN s (ssn + 1) HLN.out)
  have HM7 := keep (show MBx (w5.drew.setCell ⟨g.nb, s, none⟩ (.int .u16 (ssn + 1))) w.heap.size s pp d1 d2 d3 from ((part_set w5.drew g.nb s _).block _ (Array.getElem?_eq_some_iff.1 HM6.out).1 (fun e => HNO.out ⟨1, e⟩)).trans HM6.out)
  have c14' := H7.out.1.c14
  dsimp only at c14' n6 f6
  rw [List.length_set] at c14'
  refine wp_region_held_drew (S := (fun w' => w'.cell? ⟨g.b, 14, none⟩ = some (.slice (some ⟨g.nb, 0, none⟩) x.nl.length x.nl.length) ∧ w'.cell? ⟨w.heap.size, 0, none⟩ = some (.int .u16 (s : Int)))) (by kernel_rfl) ⟨H6.out.c14, HM6.out.all.1⟩ (fun hHeld => ?_)
  refine wT (i := 0) (oi := ⟨some 59, _, _, _, _, _⟩) (v := ?vn1x0) rfl (by kernel_rfl) (by kernel_rfl) (by kernel_rfl) (fun _ _ _ h => h) (Or.inl ⟨by rfl, ?hyn1x0⟩) (by assumption) ?restn1x0
  case hyn1x0 => (intro wz hSw; (try dsimp only at hSw); go_simp <;> try with_reducible rfl)
  try simp only [aP, lA, lZ, lS]
  refine wT (i := 1) (oi := ⟨some 60, _, _, _, _, _⟩) (v := ?vn2x1) rfl (by kernel_rfl) (by kernel_rfl) (by kernel_rfl) (fun _ _ _ h => h) (Or.inl ⟨by rfl, ?hyn2x1⟩) (by assumption) ?restn2x1
  case hyn2x1 => (intro wz hSw; (try dsimp only at hSw); go_simp <;> try with_reducible rfl)
  try simp only [aP, lA, lZ, lS]
  refine wT (i := 2) (oi := ⟨some 61, _, _, _, _, _⟩) (v := ?vn3x2) rfl (by kernel_rfl) (by kernel_rfl) (by kernel_rfl) (fun _ _ _ h => h) (Or.inl ⟨by rfl, ?hyn3x2⟩) (by assumption) ?restn3x2
  case hyn3x2 => (intro wz hSw; (try dsimp only at hSw); go_simp <;> try with_reducible rfl)
  try simp only [aP, lA, lZ, lS]
  refine wT (i := 3) (oi := ⟨some 62, _, _, _, _, _⟩) (v := ?vn4x3) rfl (by kernel_rfl) (by kernel_rfl) (by kernel_rfl) (fun _ _ _ h => h) (Or.inl ⟨by rfl, ?hyn4x3⟩) (by assumption) ?restn4x3
  case hyn4x3 => (intro wz hSw; (try dsimp only at hSw); go_simp <;> try with_reducible rfl)
  try simp only [aP, lA, lZ, lS]
  refine wT (i := 4) (oi := ⟨some 63, _, _, _, _, _⟩) (v := ?vn5x4) rfl (by kernel_rfl) (by kernel_rfl) (by kernel_rfl) (fun _ _ _ h => h) (Or.inl ⟨by rfl, ?hyn5x4⟩) (by assumption) ?restn5x4
  case hyn5x4 => (intro wz hSw; (try dsimp only at hSw); go_simp <;> try with_reducible rfl)
  try simp only [aP, lA, lZ, lS]
  refine wT (i := 5) (oi := ⟨some 64, _, _, _, _, _⟩) (v := ?vn6x5) rfl (by kernel_rfl) (by kernel_rfl) (by kernel_rfl) (fun _ _ _ h => h) (Or.inl ⟨by rfl, ?hyn6x5⟩) (by assumption) ?restn6x5
  case hyn6x5 => (intro wz hSw; (try dsimp only at hSw); go_simp <;> try with_reducible rfl)
  try simp only [aP, lA, lZ, lS]
  refine wT (i := 6) (oi := ⟨some 65, _, _, _, _, _⟩) (v := ?vn7x6) rfl (by kernel_rfl) (by kernel_rfl) (by kernel_rfl) (fun _ _ _ h => h) (Or.inl ⟨by rfl, ?hyn7x6⟩) (by assumption) ?restn7x6
  case hyn7x6 => (intro wz hSw; (try dsimp only at hSw); go_simp <;> try with_reducible rfl)
  try simp only [aP, lA, lZ, lS]
  refine wpAnyH_ready (rs := [7]) (by kernel_rfl) (by simp) (AllReadyH.cons (o := ⟨some 66, _, _, _, _, _⟩) rfl (fun K hK => ?_) AllReadyH.nil)
  go_simp
  refine hK.out _ _ ⟨H6.out.c14, HM6.out.all.1⟩ (fun hHeld => ?_)
  clear hK K
  try simp only [aP, lA, lZ, lS]
  refine wT (i := 8) (oi := ⟨some 67, _, _, _, _, _⟩) (v := ?vn8x8) rfl (by kernel_rfl) (by kernel_rfl) (by kernel_rfl) (fun _ _ _ h => h) (Or.inl ⟨by rfl, ?hyn8x8⟩) (by assumption) ?restn8x8
  case hyn8x8 => (intro wz hSw; (try dsimp only at hSw); go_simp <;> try with_reducible rfl)
  try simp only [aP, lA, lZ, lS]
  refine wT (i := 9) (oi := ⟨some 68, _, _, _, _, _⟩) (v := ?vn9x9) rfl (by kernel_rfl) (by kernel_rfl) (by kernel_rfl) (fun _ _ _ h => h) (Or.inl ⟨by rfl, ?hyn9x9⟩) (by assumption) ?restn9x9
  case hyn9x9 => (intro wz hSw; (try dsimp only at hSw); go_simp <;> try with_reducible rfl)
  try simp only [aP, lA, lZ, lS]
  refine wpAnyH_ready (rs := [10]) (by kernel_rfl) (by simp) (AllReadyH.cons (o := ⟨none, _, _, _, _, _⟩) rfl (fun K hK => ?_) AllReadyH.nil)
  go_simp
  refine hK.out _ _ ⟨c14', HM7.out.all.1⟩ (fun hHeld => ?_)
  clear hK K
  try simp only [aP, lA, lZ, lS]
  refine wpAnyH_done (by kernel_rfl) ?_ _
  go_wp2
  go_ret
  exact ⟨rfl, Q', new, m, keep ⟨H7.out.1, (Xl.below HB4.out).trans (H5.out.2.1.trans ((Xl.below (Below.refl _ _).drew).trans H7.out.2)), H5.out.2.2⟩⟩
end
end Go.Proofs.YtnlkdlnmffibhaaGreat
