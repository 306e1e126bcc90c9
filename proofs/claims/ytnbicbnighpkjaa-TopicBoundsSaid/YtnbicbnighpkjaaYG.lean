/- Package topic: Publish. -/
import Derived.Test.YtnbicbnighpkjaaYF
import Derived.Deep.MidRow
namespace Go.Proofs.Ytnbicbnighpkjaa
open Go.RowKit Go.Maps
set_option linter.unusedVariables false
set_option linter.unusedSimpArgs false

theorem step_store {P : Program} {ops : Array Oper} {o : Oper} {a : Act} {w : World} {K : Act → World → Prop} {Q : Exit → Act → World → Prop} {E : Prop} (hgd : o.guard = none) (ty : TypeId) (x y : Operand) (ho : o.op = .store ty x y)
    (b k : Nat) (cells : Array Value) (hx : a.eval x = .pointer (some ⟨b, k, none⟩)) (hy : a.eval y = .agg cells)
    (ht : w.there b k cells.size) (hi : (P.info? ty).map (·.size) = some cells.size) (h1 : cells.all (·.oneCell') = true)
    (h : K (a.put o.dst undef) (w.setCells b k cells.toList)) : if Region.wanted o (yielded ops a.tmps) = true then Oper.wp P o a w K Q else E := by
  rw [if_pos (by simp [Region.wanted, hgd])]
  exact wp_store_mid ty x y ho b k cells hx hy ht hi h1 h
theorem setCells_whole {b : Nat} {t : TypeId} : ∀ (vs : List Value) (p C : List Value) (w : World), w.heap[b]? = some (.cells (p ++ C).toArray t (0, 0)) → C.length = vs.length → (w.setCells b p.length vs).heap[b]? = some (.cells (p ++ vs).toArray t (0, 0))
  | [], p, C, w, h, hl => by
    obtain rfl := List.length_eq_zero_iff.1 hl
    exact h
  | v :: r, p, [], w, h, hl => by simp at hl
  | v :: r, p, c :: C, w, h, hl => by
    have h1 := heap_setCell_same w b p.length _ _ v h
    have h2 : (p ++ c :: C).toArray.setIfInBounds p.length v = ((p ++ [v]) ++ C).toArray := by simp
    rw [h2] at h1
    have h3 := setCells_whole r (p ++ [v]) C (w.setCell ⟨b, p.length, none⟩ v) h1 (by simpa using hl)
    rw [List.length_append, List.length_singleton] at h3
    show (World.setCells (w.setCell ⟨b, p.length, none⟩ v) b (p.length + 1) r).heap[b]? = _
    rw [h3]
    simp
theorem there_of {w : World} {b : Nat} {C : Array Value} {t : TypeId} (h : w.heap[b]? = some (.cells C t (0, 0))) (o n : Nat) (hn : o + n ≤ C.size) : w.there b o n := fun j hj =>
  ⟨by rw [upd_cell h (o + j) C[o + j] (Array.getElem?_eq_getElem (by omega))]; rfl, upd_fz h (o + j)⟩

theorem u8_info : (Try.prog.info? 5).map (fun i => (i.zero, i.size, i.bytes)) = some (some (.int .u8 0), 1, 1) := by kernel_rfl
def RetU (w : World) (bs : List UInt8) (e : Ending) (w' : World) : Prop :=
  ∃ A n c, e = .returned (.slice A n c) ∧ BS w' A n c bs ∧ Below w.heap.size w w' ∧ (∀ a, A = some a → w.heap.size ≤ a.block ∧ a.block < w'.heap.size) ∧ w'.ownsRow w.heap.size 5 1 (.slice A n c) n (bc bs)
set_option maxHeartbeats 1000000 in
theorem bclone_any (A : Option Addr) (n c : Nat) (bs : List UInt8) (w : World) (h : BS w A n c bs) (hn : n ≤ 100000) :
    Calls Try.prog 42 #[.slice A n c] w (RetU w bs) := by
  have qn : ∀ (w : World), (binOp .eql 30 (.slice A n c) (.slice none 0 0)).run Try.prog w = .ok (.bool A.isNone) w := fun w => by cases A <;> exact Lib.run_eql_slice_nil w _ _ _ n c 0 0 Try.underlying30
  cases A with
  | none =>
    have hb : bs = [] := by
      rcases bs with _ | ⟨x, r⟩
      · rfl
      · obtain ⟨_, _, e, _⟩ := h.br.at_ (j := 0) (by simp)
        cases e
    subst hb
    dsimp only [Option.isNone] at qn
    have HB := keep (show BS w none 0 0 [] from BS.nil w)
    clear h hn
    go_enter Try.func42, Try.ntmps42
    go_wp2
    go_ret
    exact ⟨none, 0, 0, rfl, HB.out, Below.refl _ _, fun a ha => (by cases ha), rfl, .inl ⟨rfl, rfl⟩⟩
  | some a0 =>
    dsimp only [Option.isNone] at qn
    obtain ⟨i0, hi0, hz0, hz1, hz2⟩ := info_parts u8_info
    have HS := keep (h.step (below_lay w (.cells #[] 5)))
    have HL := keep h.len
    have HN := keep hn
    have LW := keep (below_lay w (.cells #[] 5))
    have HO := keep (show (w.alloc (.cells #[] 5)).ownsRow w.heap.size 5 1 (.slice (some ⟨w.heap.size, 0, none⟩) 0 0) 0 [] from own_row (heap_alloc_new w _) 0 rfl (by decide))
    clear h hn
    go_enter Try.func42, Try.ntmps42
    go_wp2_with (at_builtin; refine wpl_append rfl (.tmp 5) (.tmp 6) 30 rfl w.heap.size 5 i0 (.int .u8 0) Try.underlying30 hi0 hz0 hz1 rfl _ 0 [] rfl HO.out (some a0) n c (bc bs) rfl (by rw [bc_length]; exact HL.out) HS.out.br.sr (bc_one _) (by have := HN.out; unfold maxLen; omega) (by have := HN.out; rw [hz2]; omega) (Nat.le_of_lt (by simp)) ?_
                 intro A4 c4 w4 ho4 hb4
                 simp only [Nat.zero_add, List.nil_append] at ho4
                 replace hb4 := keep (LW.out.trans hb4))
    go_ret
    exact ⟨A4, _, c4, rfl, BS.of_own ho4.out, hb4.out, fun a ha => ho4.out.lt a.block (by rw [ha]; rfl), ho4.out⟩
def emptyB (s : ByteArray) : Bool := decide (s.size = 0)
def pubE (M : Mo) (p : Int) (s : ByteArray) (n : Nat) : Int := if hasB M p = false ∨ s.size = 0 then 1 else if 256 < s.size ∨ 16384 < n then 10 else if (M.at p).isSome = true then 0 else 11
def pubI (M : Mo) (p : Int) (s : ByteArray) (tx : Bool) (bs : List UInt8) : It := ⟨s, p, M.N s, tx, bs⟩
def pubN (M : Mo) (s : ByteArray) : Mo := { M with N := fun t => if t = s then M.N s + 1 else M.N t, u := M.u + 1 }
def pubM (M : Mo) (p : Int) (s : ByteArray) (tx : Bool) (bs : List UInt8) : Mo := if pubE M p s bs.length = 0 then handTo (pubN M s) (pubI M p s tx bs) M.np else M
def pubC (M : Mo) (p : Int) (s : ByteArray) (tx : Bool) (bs : List UInt8) : Nat := if pubE M p s bs.length = 0 then handN (pubN M s) (pubI M p s tx bs) M.np else 0
section
variable {lo : Nat} {ow : Ow} {R : Gr} {W : World}
/-- One more was published. -/
theorem RA.pub (h : RA lo ow R W) {s : ByteArray} {W' : World} {c' : Nat} (hc : c' ≤ R.cq + 1) (hM : MapS W' 9 R.q c' (putS R.ns s (.int .i64 ((R.mo.N s : Nat) + 1 : Int)))) (hg : W.grownBy W' (some R.q)) :
    ∃ R', RA lo ow R' W' ∧ R'.b = R.b ∧ R'.mo = pubN R.mo s ∧ R'.P = R.P := by
  have hp : Part (fun i => i = R.q) W W' := Part.of_grown hg fun k hk => by injection hk with hk; exact hk.symm
  refine ⟨{ R with N := fun t => if t = s then some (R.mo.N s + 1) else R.N t, cq := c', u := R.u + 1 }, ⟨(hp.block _ h.lt (tag_ne h.ob h.oq (by simp))).trans h.hd, h.ob, h.jn.kept hp (tag_ne h.oj h.oq (by simp)), h.oj, ?_, h.oq, fun n m hm => ?_, h.ok.step hp.size, Nat.le_trans h.lo hp.size, h.np, h.rm, ?_, ?_, fun t k hk => ?_⟩, rfl, ?_, rfl⟩
  · have : Gr.ns { R with N := fun t => if t = s then some (R.mo.N s + 1) else R.N t, cq := c', u := R.u + 1 } = putS R.ns s (.int .i64 ((R.mo.N s : Nat) + 1 : Int)) := by
      funext t
      unfold Gr.ns putS
      dsimp only
      by_cases e : t = s
      · rw [if_pos e, if_pos e]
        rfl
      · rw [if_neg e, if_neg e]
    rw [this]
    exact hM
  · obtain ⟨z1, z2, z3, z4⟩ := h.ms n m hm
    exact ⟨z1.keep hp (fun i hi => by subst hi; exact ⟨by rw [h.oq]; simp, fun ⟨t, q1, q2⟩ => by rw [h.oq] at q1; injection q1 with q1; rw [← q1] at q2; cases q2⟩) (Ext.refl W ow), z2, z3, by show m.lost ≤ R.u + 1; omega⟩
  · have := h.cj; show R.cj ≤ R.u + 1; omega
  · have := h.cq; show c' ≤ R.u + 1; omega
  · dsimp only at hk
    have h0 : R.mo.N s ≤ R.u := by
      unfold Gr.mo
      dsimp only
      cases hN : R.N s with
      | none => exact Nat.zero_le _
      | some v => exact h.nu s v hN
    by_cases e : t = s
    · rw [if_pos e] at hk
      injection hk with hk
      show k ≤ R.u + 1
      omega
    · rw [if_neg e] at hk
      have := h.nu t k hk
      show k ≤ R.u + 1
      omega
  · unfold pubN Gr.mo
    dsimp only
    congr 1
    funext t
    by_cases e : t = s
    · rw [if_pos e, if_pos e]; rfl
    · rw [if_neg e, if_neg e]
set_option maxHeartbeats 8000000 in
set_option maxRecDepth 1000000 in
theorem Publish_any (h : RA lo ow R W) {p : Int} (hp : (Lit.int .i64 p).wf = true) {s : ByteArray} (hs : s.size ≤ 300) (tx : Bool) {A : Option Addr} {n c : Nat} {bs : List UInt8} (hd : BS W A n c bs) (hu : R.u ≤ 100000) :
    Calls Try.prog 26 #[ptr R.b, .int .i64 p, .string s, .bool tx, .slice A n c] W fun e w' => e = .returned (.tuple #[.int .i64 (pubC R.mo p s tx bs : Nat), .int .i64 (pubE R.mo p s bs.length)]) ∧ RP lo ow W R.b (pubM R.mo p s tx bs) w' := by
  have K := keep (has_any h p)
  obtain ⟨d0, d1, d2, d3⟩ := h.c0
  have L := h.look hp W rfl
  have hj := R.js_at p
  have hat := R.at_mo p
  have HS := keep (RP.of h.rl (Below.refl _ W))
  have hnl := hd.len
  have bad : pubE R.mo p s bs.length ≠ 0 → pubC R.mo p s tx bs = 0 ∧ pubM R.mo p s tx bs = R.mo := fun hb => by
    unfold pubC pubM
    rw [if_neg hb, if_neg hb]
    exact ⟨rfl, rfl⟩
  cases hb : hasB R.mo p with
  | false =>
    have e1 : pubE R.mo p s bs.length = 1 := by unfold pubE; rw [if_pos (.inl hb)]
    obtain ⟨e2, e3⟩ := bad (by rw [e1]; decide)
    rw [e2, e3, e1]
    rw [hb] at K
    clear h hp L hj hat e1 e2 e3 hb bad hnl hd
    unfold ptr at K ⊢
    go_enter Try.func26, Try.ntmps26
    go_wp2_with (go_at_call 38; refine K.out.mono ?_; rintro e w2 ⟨rfl, rfl⟩)
    go_ret2
    exact ⟨rfl, HS.out⟩
  | true =>
    rw [hb] at K
    have hbp := hasB_iff.1 hb
    by_cases s0 : s.size = 0
    · have e1 : pubE R.mo p s bs.length = 1 := by unfold pubE; rw [if_pos (.inr s0)]
      obtain ⟨e2, e3⟩ := bad (by rw [e1]; decide)
      rw [e2, e3, e1]
      obtain rfl := txt_nil s0
      clear h hp L hj hat e1 e2 e3 hb bad hbp s0 hs hnl hd
      unfold ptr at K ⊢
      go_enter Try.func26, Try.ntmps26
      go_wp2_with (go_at_call 38; refine K.out.mono ?_; rintro e w2 ⟨rfl, rfl⟩)
      go_ret2
      exact ⟨rfl, HS.out⟩
    obtain ⟨t1, t2, t3⟩ := txt_ne (s := s) (by omega)
    have q0 : ¬ (hasB R.mo p = false ∨ s.size = 0) := fun q => by rcases q with q | q; (rw [hb] at q; cases q); exact s0 q
    by_cases s1 : 256 < s.size
    · have e1 : pubE R.mo p s bs.length = 10 := by unfold pubE; rw [if_neg q0, if_pos (.inl s1)]
      obtain ⟨e2, e3⟩ := bad (by rw [e1]; decide)
      rw [e2, e3, e1]
      have s1I : (256 : Int) < (s.size : Int) := by omega
      clear h hp L hj hat e1 e2 e3 hb bad hbp s0 hs s1 q0 hnl hd
      unfold ptr at K ⊢
      go_enter Try.func26, Try.ntmps26
      go_wp2_with (go_at_call 38; refine K.out.mono ?_; rintro e w2 ⟨rfl, rfl⟩)
      go_ret2
      exact ⟨rfl, HS.out⟩
    have s1I : ¬ (256 : Int) < (s.size : Int) := by omega
    by_cases l1 : 16384 < n
    · have e1 : pubE R.mo p s bs.length = 10 := by unfold pubE; rw [if_neg q0, if_pos (.inr (by omega))]
      obtain ⟨e2, e3⟩ := bad (by rw [e1]; decide)
      rw [e2, e3, e1]
      have l1I : (16384 : Int) < (n : Int) := by omega
      clear h hp L hj hat e1 e2 e3 hb bad hbp s0 hs s1 q0 hnl hd l1
      unfold ptr at K ⊢
      go_enter Try.func26, Try.ntmps26
      go_wp2_with (go_at_call 38; refine K.out.mono ?_; rintro e w2 ⟨rfl, rfl⟩)
      go_ret2
      exact ⟨rfl, HS.out⟩
    have l1I : ¬ (16384 : Int) < (n : Int) := by omega
    have q1 : ¬ (256 < s.size ∨ 16384 < bs.length) := by omega
    cases hm : R.at p with
    | none =>
      rw [hm] at hj hat
      have e1 : pubE R.mo p s bs.length = 11 := by unfold pubE; rw [if_neg q0, if_neg q1, if_neg (by rw [hat]; decide)]
      obtain ⟨e2, e3⟩ := bad (by rw [e1]; decide)
      rw [e2, e3, e1]
      rw [hj] at L
      dsimp only [Option.map, Option.getD] at L
      clear h hp hj hat e1 e2 e3 hb bad hbp s0 hs s1 q0 q1 hnl hd l1 hm
      unfold ptr at K ⊢
      go_enter Try.func26, Try.ntmps26
      go_wp2_with (go_at_call 38; refine K.out.mono ?_; rintro e w2 ⟨rfl, rfl⟩)
      go_ret2
      exact ⟨rfl, HS.out⟩
    | some m =>
      rw [hm] at hj hat
      have e1 : pubE R.mo p s bs.length = 0 := by unfold pubE; rw [if_neg q0, if_neg q1, if_pos (by rw [hat]; rfl)]
      have e2 : pubC R.mo p s tx bs = handN (pubN R.mo s) (pubI R.mo p s tx bs) R.np := by unfold pubC; rw [if_pos e1]; rfl
      have e3 : pubM R.mo p s tx bs = handTo (pubN R.mo s) (pubI R.mo p s tx bs) R.np := by unfold pubM; rw [if_pos e1]; rfl
      rw [e1, e2, e3]
      rw [hj] at L
      dsimp only [Option.map, Option.getD] at L
      have hNu : R.mo.N s ≤ R.u := by
        unfold Gr.mo
        dsimp only
        cases hN : R.N s with
        | none => exact Nat.zero_le _
        | some v => exact h.nu s v hN
      have hNI : (R.mo.N s : Int) ≤ 100000 := by omega
      have HH := keep (And.intro h (And.intro hd (And.intro hu (And.intro hs (And.intro hnl (And.intro l1 s1))))))
      have KC := keep fun w => sclone_any s (by omega) w
      have HNN := keep (And.intro hNu hNI)
      clear h hp hj hat e1 e2 e3 hb bad hbp s0 hs s1 q0 q1 hnl hd l1 hm hu hNu
      unfold ptr at K L ⊢
      go_enter Try.func26, Try.ntmps26
      go_wp2_with (first | (go_at_call 38; refine K.out.mono ?_; rintro e w2 ⟨rfl, rfl⟩) | (go_at_call 41; refine (KC.out _).mono ?_; rintro e w1 ⟨rfl, hb1⟩; have HB1 := keep hb1; clear hb1))
      have HR1 := keep (HH.out.1.step HB1.out)
      have HD1 := keep (HH.out.2.1.step HB1.out)
      clear L d0 d1 d2 d3 t1 t2 t3 s1I l1I K KC
      have HSX := keep (show ∀ W' : World, RA lo ow R W' → W'.cell? ⟨R.b, 3, none⟩ = some (.map (some R.q)) ∧ (Instr.lookup 61 (.map (some R.q)) (.string s) false).run Try.prog W' = .ok (.int .i64 (R.mo.N s : Nat)) W' from fun W' hr => ⟨hr.c0.2.2.2, hr.lookN (by have := HH.out.2.2.2.1; omega) W' rfl⟩)
      have KB := keep fun (w : World) (hb : Below w1.heap.size w1 w) => bclone_any A n c bs w (HD1.out.step hb) (by have := HH.out.2.2.2.2.2.1; omega)
      have HOK := keep HH.out.1.ok
      refine wp_region_held_drew (S := (fun w' => w'.cell? ⟨R.b, 3, none⟩ = some (.map (some R.q)) ∧ (Instr.lookup 61 (.map (some R.q)) (.string s) false).run Try.prog w' = .ok (.int .i64 (R.mo.N s : Nat)) w')) (by kernel_rfl) (HSX.out _ (HR1.out.step (Below.refl _ w1).drew)) (fun hHeld => ?_)
      refine wpAnyH_take (i := 0) (oi := ⟨some 41, _, _, _, _, _⟩) (v := ?vp1x0) rfl (by kernel_rfl) (by kernel_rfl) (by kernel_rfl) (fun _ _ _ h => h) (Or.inl ⟨by rfl, ?hyp1x0⟩) (by assumption) ?restp1x0
      case hyp1x0 => (intro wz hSw; (try dsimp only at hSw); go_simp <;> (try with_reducible rfl))
      try simp only [Act.put, List.setIfInBounds_toArray, List.set_cons_zero, List.set_cons_succ]
      refine wpAnyH_take (i := 1) (oi := ⟨some 42, _, _, _, _, _⟩) (v := ?vp2x1) rfl (by kernel_rfl) (by kernel_rfl) (by kernel_rfl) (fun _ _ _ h => h) (Or.inl ⟨by rfl, ?hyp2x1⟩) (by assumption) ?restp2x1
      case hyp2x1 => (intro wz hSw; (try dsimp only at hSw); go_simp <;> (try with_reducible rfl))
      try simp only [Act.put, List.setIfInBounds_toArray, List.set_cons_zero, List.set_cons_succ]
      refine wpAnyH_take (i := 2) (oi := ⟨some 43, _, _, _, _, _⟩) (v := ?vp3x2) rfl (by kernel_rfl) (by kernel_rfl) (by kernel_rfl) (fun _ _ _ h => h) (Or.inl ⟨by rfl, ?hyp3x2⟩) (by assumption) ?restp3x2
      case hyp3x2 => (intro wz hSw; (try dsimp only at hSw); go_simp <;> (try with_reducible rfl))
      try simp only [Act.put, List.setIfInBounds_toArray, List.set_cons_zero, List.set_cons_succ]
      refine wpAnyH_take (i := 3) (oi := ⟨some 44, _, _, _, _, _⟩) (v := ?vp4x3) rfl (by kernel_rfl) (by kernel_rfl) (by kernel_rfl) (fun _ _ _ h => h) (Or.inl ⟨by rfl, ?hyp4x3⟩) (by assumption) ?restp4x3
      case hyp4x3 => (intro wz hSw; (try dsimp only at hSw); go_simp <;> (try with_reducible rfl))
      try simp only [Act.put, List.setIfInBounds_toArray, List.set_cons_zero, List.set_cons_succ]
      refine wpAnyH_take (i := 4) (oi := ⟨some 45, _, _, _, _, _⟩) (v := ?vp5x4) rfl (by kernel_rfl) (by kernel_rfl) (by kernel_rfl) (fun _ _ _ h => h) (Or.inl ⟨by rfl, ?hyp5x4⟩) (by assumption) ?restp5x4
      case hyp5x4 => (intro wz hSw; (try dsimp only at hSw); go_simp <;> (try with_reducible rfl))
      try simp only [Act.put, List.setIfInBounds_toArray, List.set_cons_zero, List.set_cons_succ]
      refine wpAnyH_take (i := 5) (oi := ⟨some 46, _, _, _, _, _⟩) (v := ?vp6x5) rfl (by kernel_rfl) (by kernel_rfl) (by kernel_rfl) (fun _ _ _ h => h) (Or.inl ⟨by rfl, ?hyp6x5⟩) (by assumption) ?restp6x5
      case hyp6x5 => (intro wz hSw; (try dsimp only at hSw); go_simp <;> (try with_reducible rfl))
      try simp only [Act.put, List.setIfInBounds_toArray, List.set_cons_zero, List.set_cons_succ]
      refine wpAnyH_take (i := 6) (oi := ⟨some 47, _, _, _, _, _⟩) (v := ?vp7x6) rfl (by kernel_rfl) (by kernel_rfl) (by kernel_rfl) (fun _ _ _ h => h) (Or.inl ⟨by rfl, ?hyp7x6⟩) (by assumption) ?restp7x6
      case hyp7x6 => (intro wz hSw; (try dsimp only at hSw); go_simp <;> (try with_reducible rfl))
      try simp only [Act.put, List.setIfInBounds_toArray, List.set_cons_zero, List.set_cons_succ]
      refine wpAnyH_take (i := 7) (oi := ⟨some 48, _, _, _, _, _⟩) (v := ?vp8x7) rfl (by kernel_rfl) (by kernel_rfl) (by kernel_rfl) (fun _ _ _ h => h) (Or.inl ⟨by rfl, ?hyp8x7⟩) (by assumption) ?restp8x7
      case hyp8x7 => (intro wz hSw; (try dsimp only at hSw); go_simp <;> (try with_reducible rfl))
      try simp only [Act.put, List.setIfInBounds_toArray, List.set_cons_zero, List.set_cons_succ]
      refine wpAnyH_take (i := 8) (oi := ⟨some 49, _, _, _, _, _⟩) (v := ?vp9x8) rfl (by kernel_rfl) (by kernel_rfl) (by kernel_rfl) (fun _ _ _ h => h) (Or.inl ⟨by rfl, ?hyp9x8⟩) (by assumption) ?restp9x8
      case hyp9x8 => (intro wz hSw; (try dsimp only at hSw); go_simp <;> (try with_reducible rfl))
      try simp only [Act.put, List.setIfInBounds_toArray, List.set_cons_zero, List.set_cons_succ]
      refine wpAnyH_take (i := 9) (oi := ⟨some 50, _, _, _, _, _⟩) (v := ?vp10x9) rfl (by kernel_rfl) (by kernel_rfl) (by kernel_rfl) (fun _ _ _ h => h) (Or.inl ⟨by rfl, ?hyp10x9⟩) (by assumption) ?restp10x9
      case hyp10x9 => (intro wz hSw; (try dsimp only at hSw); go_simp <;> (try with_reducible rfl))
      try simp only [Act.put, List.setIfInBounds_toArray, List.set_cons_zero, List.set_cons_succ]
      refine wpAnyH_ready (rs := [10, 12]) (by kernel_rfl) (by simp) (AllReadyH.cons (o := ⟨some 51, _, _, _, _, _⟩) rfl (fun K hK => ?pa) (AllReadyH.cons (o := ⟨some 12, _, _, _, _, _⟩) rfl (fun K hK => ?pb) AllReadyH.nil))
      case pa =>
        go_simp
        go_at_call 42
        refine (KB.out _ (Below.refl _ w1).drew).mono ?_
        rintro e w2 ⟨A5, n5, c5, rfl, hbs, hb2, hbl, _⟩
        have HB2 := keep (show Below w1.heap.size w1 w2 from (Below.refl _ w1).drew.trans (hb2.mono (Nat.le_refl _)))
        have HBS := keep hbs
        have HBL := keep (show ∀ a, A5 = some a → w1.heap.size ≤ a.block ∧ a.block < w2.heap.size from hbl)
        clear hb2 hbs hbl
        (try go_wp2_with fail)
        refine hK.out _ _ (HSX.out _ (HR1.out.step HB2.out)) (fun hHeld => ?_)
        clear hK K
        try simp only [Act.put, List.setIfInBounds_toArray, List.set_cons_zero, List.set_cons_succ]
        refine wpAnyH_take (i := 11) (oi := ⟨some 52, _, _, _, _, _⟩) (v := ?vqa1x11) rfl (by kernel_rfl) (by kernel_rfl) (by kernel_rfl) (fun _ _ _ h => h) (Or.inl ⟨by rfl, ?hyqa1x11⟩) (by assumption) ?restqa1x11
        case hyqa1x11 => (intro wz hSw; (try dsimp only at hSw); go_simp <;> (try with_reducible rfl))
        try simp only [Act.put, List.setIfInBounds_toArray, List.set_cons_zero, List.set_cons_succ]
        have HB3 := keep (HB2.out.trans ((below_lay w2 (.cells #[.string ⟨#[]⟩, .int .i64 0, .int .i64 0, .bool false, .slice none 0 0] 49)).mono HB2.out.size))
        have HZ := keep (heap_alloc_new w2 (.cells #[.string ⟨#[]⟩, .int .i64 0, .int .i64 0, .bool false, .slice none 0 0] 49))
        refine wpAnyH_ready (rs := [12]) (by kernel_rfl) (by simp) (AllReadyH.cons (o := ⟨some 12, _, _, _, _, _⟩) rfl (fun K hK => ?_) AllReadyH.nil)
        go_simp
        refine hK.out _ _ (HSX.out _ (HR1.out.step HB3.out)) (fun hHeld => ?_)
        clear hK K
        try simp only [Act.put, List.setIfInBounds_toArray, List.set_cons_zero, List.set_cons_succ]
        have HBS3 := keep (HBS.out.step (below_lay w2 (.cells #[.string ⟨#[]⟩, .int .i64 0, .int .i64 0, .bool false, .slice none 0 0] 49)))
        have HBL3 := keep (show ∀ a, A5 = some a → w1.heap.size ≤ a.block ∧ a.block < (w2.alloc (.cells #[.string ⟨#[]⟩, .int .i64 0, .int .i64 0, .bool false, .slice none 0 0] 49)).heap.size from fun a ha => ⟨(HBL.out a ha).1, Nat.lt_of_lt_of_le (HBL.out a ha).2 (below_lay w2 (.cells #[.string ⟨#[]⟩, .int .i64 0, .int .i64 0, .bool false, .slice none 0 0] 49)).size⟩)
        have HBG := keep (show w1.heap.size ≤ w2.heap.size from HB2.out.size)
        have HP5 := keep (part_setCells w2.heap.size [.string s, .int .i64 p, .int .i64 (R.mo.N s : Nat), .bool tx, .slice A5 n5 c5] 0 (w2.alloc (.cells #[.string ⟨#[]⟩, .int .i64 0, .int .i64 0, .bool false, .slice none 0 0] 49)))
        have HRow := keep (show (World.setCells (w2.alloc (.cells #[.string ⟨#[]⟩, .int .i64 0, .int .i64 0, .bool false, .slice none 0 0] 49)) w2.heap.size 0 [.string s, .int .i64 p, .int .i64 (R.mo.N s : Nat), .bool tx, .slice A5 n5 c5]).heap[w2.heap.size]? = some (.cells #[.string s, .int .i64 p, .int .i64 (R.mo.N s : Nat), .bool tx, .slice A5 n5 c5] 49 (0, 0)) from setCells_whole [.string s, .int .i64 p, .int .i64 (R.mo.N s : Nat), .bool tx, .slice A5 n5 c5] [] _ (w2.alloc (.cells #[.string ⟨#[]⟩, .int .i64 0, .int .i64 0, .bool false, .slice none 0 0] 49)) HZ.out rfl)
        have HBo := keep (show ow w2.heap.size = none from HOK.out.free (Nat.le_trans HB1.out.size HBG.out))
        have HB5 := keep (show Below w1.heap.size w1 (World.setCells (w2.alloc (.cells #[.string ⟨#[]⟩, .int .i64 0, .int .i64 0, .bool false, .slice none 0 0] 49)) w2.heap.size 0 [.string s, .int .i64 p, .int .i64 (R.mo.N s : Nat), .bool tx, .slice A5 n5 c5]) from HB3.out.trans (HP5.out.below HB3.out.size (fun k hk => by rw [hk]; exact HBG.out)))
        have HAD := HR1.out.dat (W' := (World.setCells (w2.alloc (.cells #[.string ⟨#[]⟩, .int .i64 0, .int .i64 0, .bool false, .slice none 0 0] 49)) w2.heap.size 0 [.string s, .int .i64 p, .int .i64 (R.mo.N s : Nat), .bool tx, .slice A5 n5 c5])) HB5.out (A := A5) (fun a ha => ⟨(HBL3.out a ha).1, Nat.lt_of_lt_of_le (HBL3.out a ha).2 HP5.out.size⟩)
        have HR5 := keep HAD.1
        have HEX := keep (show Ext W ow (owD ow A5) from fun k hk => HAD.2 k (Nat.lt_of_lt_of_le hk HB1.out.size))
        clear HAD
        have HRO := keep (HR1.out.step HB5.out)
        have HBLX := keep (show ∀ a, A5 = some a → a.block < w2.heap.size from fun a ha => (HBL.out a ha).2)
        have HBI := keep (show owD ow A5 w2.heap.size = none ∧ w2.heap.size < (World.setCells (w2.alloc (.cells #[.string ⟨#[]⟩, .int .i64 0, .int .i64 0, .bool false, .slice none 0 0] 49)) w2.heap.size 0 [.string s, .int .i64 p, .int .i64 (R.mo.N s : Nat), .bool tx, .slice A5 n5 c5]).heap.size from ⟨by cases hA : A5 with | none => exact HBo.out | some a => exact (put_other (fun e => by have h9 := HBLX.out a hA; omega)).trans HBo.out, (Array.getElem?_eq_some_iff.1 HRow.out).1⟩)
        have HY5 := keep (show IV (owD ow A5) (World.setCells (w2.alloc (.cells #[.string ⟨#[]⟩, .int .i64 0, .int .i64 0, .bool false, .slice none 0 0] 49)) w2.heap.size 0 [.string s, .int .i64 p, .int .i64 (R.mo.N s : Nat), .bool tx, .slice A5 n5 c5]) ⟨s, p, (R.mo.N s : Nat), tx, (A5, n5, c5), bs⟩ from ⟨bs_part HBS3.out HP5.out (fun a ha e => by have := (HBLX.out a ha); omega), fun a ha => ⟨by obtain rfl : A5 = some a := ha; exact put_same, Nat.lt_of_lt_of_le (HBL3.out a ha).2 HP5.out.size⟩, by show bs.length ≤ 16384; have := HH.out.2.2.2.2.1; have := HH.out.2.2.2.2.2.1; omega, HH.out.2.2.2.1⟩)
        have HPW := keep (show Part (All ow) W (World.setCells (w2.alloc (.cells #[.string ⟨#[]⟩, .int .i64 0, .int .i64 0, .bool false, .slice none 0 0] 49)) w2.heap.size 0 [.string s, .int .i64 p, .int .i64 (R.mo.N s : Nat), .bool tx, .slice A5 n5 c5]) from Part.of_below _ (HB1.out.trans (HB5.out.mono HB1.out.size)))
        refine wpAnyH_ready (rs := [13]) (by kernel_rfl) (by simp) (AllReadyH.cons (o := ⟨none, _, _, _, _, _⟩) rfl (fun K hK => ?_) AllReadyH.nil)
        refine step_store rfl 49 (.tmp 12) (.tmp 52) rfl w2.heap.size 0 _ rfl rfl (there_of HZ.out 0 5 (by decide)) (by kernel_rfl) (by simp [Value.oneCell']) ?_
        refine hK.out _ _ (HSX.out _ HRO.out) (fun hHeld => ?_)
        clear hK K
        try simp only [Act.put, List.setIfInBounds_toArray, List.set_cons_zero, List.set_cons_succ]
        refine wpAnyH_done (by kernel_rfl) ?_ _
        obtain ⟨W5, hW5⟩ : ∃ W5, (World.setCells (w2.alloc (.cells #[.string ⟨#[]⟩, .int .i64 0, .int .i64 0, .bool false, .slice none 0 0] 49)) w2.heap.size 0 [.string s, .int .i64 p, .int .i64 (R.mo.N s : Nat), .bool tx, .slice A5 n5 c5]) = W5 := ⟨_, rfl⟩
        rw [hW5] at HR5 HRow HBI HY5 HPW HB5 HRO
        rw [hW5]
        clear hW5 HP5
        skip
        have L9 := HR5.out.lookN (s := s) (by have := HH.out.2.2.2.1; omega) W5 rfl
        obtain ⟨e0, e1, e2, e3⟩ := HR5.out.c0
        have hw9 : IntKind.i64.wrap ((R.mo.N s : Int) + 1) = (R.mo.N s : Int) + 1 := IntWalk.i64_in _ (by have := HNN.out.2; omega)
        obtain ⟨w6, hrun6, hM6, hgr6, hsz6⟩ := HR5.out.pb.store (e := 3) Try.underlying9 Try.underlying61 (n := s) (by have := HH.out.2.2.2.1; unfold maxLen; omega) (by have := HR5.out.cq; have := HH.out.2.2.1; unfold maxLen; omega) (.int .i64 ((R.mo.N s : Int) + 1))
        obtain ⟨R6, k1, k2, k3, k4⟩ := HR5.out.pub (by split <;> omega) hM6 hgr6
        have HB6 := keep (show w6.heap[w2.heap.size]? = some (.cells #[.string s, .int .i64 p, .int .i64 (R.mo.N s : Nat), .bool tx, .slice A5 n5 c5] 49 (0, 0)) from (hgr6.block w2.heap.size HBI.out.2 (fun e => by injection e with e; have h3 := HR5.out.oq; rw [← e, HBI.out.1] at h3; cases h3)).trans HRow.out)
        have hpt := Part.of_grown (S := All (owD ow A5)) hgr6 (fun k hk => by injection hk with hk; subst hk; exact ⟨_, HR5.out.oq, by simp⟩)
        have HY6 := keep (HY5.out.step hpt (fun k hk => hk.nd) (Ext.refl W5 (owD ow A5)))
        have HU6 := keep (show R6.u ≤ 100001 from by have h3 := congrArg Mo.u k3; have h4 : R6.u = R.u + 1 := h3; have := HH.out.2.2.1; omega)
        have HNP := keep (show R6.np = R.np from congrArg Mo.np k3)
        have KH := keep (hand_any k1 HY6.out (fun n m hm => by rw [k4] at hm; have h3 := (HR5.out.ms n m hm).2.2.2; have h4 : R6.u = R.u + 1 := congrArg Mo.u k3; omega) HU6.out)
        have HPB := keep (HPW.out.trans hpt fun k hk => All.back HEX.out hk)
        rw [k2, k3, HNP.out] at KH
        have c60 := upd_cell HB6.out 0 _ rfl
        have c61 := upd_cell HB6.out 1 _ rfl
        have c62 := upd_cell HB6.out 2 _ rfl
        have c63 := upd_cell HB6.out 3 _ rfl
        have c64 := upd_cell HB6.out 4 _ rfl
        dsimp only at KH
        unfold ptr at KH
        clear k1 k2 k3 k4 hM6 hgr6 hsz6 hpt e0 e1 e2
        go_wp2_with (go_at_call 43; refine KH.out.mono ?_; rintro e w7 ⟨rfl, hR7⟩; have HR7 := keep (RP.then HEX.out HPB.out hR7); clear hR7)
        go_ret2
        exact ⟨rfl, HR7.out⟩
      case pb =>
        go_simp
        have HB0 := keep (show Below w1.heap.size w1 ((World.drew w1).alloc (.cells #[.string ⟨#[]⟩, .int .i64 0, .int .i64 0, .bool false, .slice none 0 0] 49)) from (Below.refl _ w1).drew.trans ((below_lay (World.drew w1) (.cells #[.string ⟨#[]⟩, .int .i64 0, .int .i64 0, .bool false, .slice none 0 0] 49)).mono (Nat.le_refl _)))
        refine hK.out _ _ (HSX.out _ (HR1.out.step HB0.out)) (fun hHeld => ?_)
        clear hK K
        try simp only [Act.put, List.setIfInBounds_toArray, List.set_cons_zero, List.set_cons_succ]
        refine wpAnyH_ready (rs := [10]) (by kernel_rfl) (by simp) (AllReadyH.cons (o := ⟨some 51, _, _, _, _, _⟩) rfl (fun K hK => ?_) AllReadyH.nil)
        go_simp
        go_at_call 42
        refine (KB.out _ HB0.out).mono ?_
        rintro e w2 ⟨A5, n5, c5, rfl, hbs, hb2, hbl, _⟩
        have HB3 := keep (HB0.out.trans (hb2.mono HB0.out.size))
        have HBS3 := keep hbs
        have HBL3 := keep (show ∀ a, A5 = some a → w1.heap.size ≤ a.block ∧ a.block < w2.heap.size from fun a ha => ⟨Nat.le_trans HB0.out.size (hbl a ha).1, (hbl a ha).2⟩)
        have HBLX := keep (show ∀ a, A5 = some a → w1.heap.size < a.block from fun a ha => Nat.lt_of_lt_of_le (by simp) (hbl a ha).1)
        have HZ := keep (show w2.heap[w1.heap.size]? = some (.cells #[.string ⟨#[]⟩, .int .i64 0, .int .i64 0, .bool false, .slice none 0 0] 49 (0, 0)) from (hb2.block w1.heap.size (by simp)).trans (heap_alloc_new (World.drew w1) (.cells #[.string ⟨#[]⟩, .int .i64 0, .int .i64 0, .bool false, .slice none 0 0] 49)))
        have HBG := keep (Nat.le_refl w1.heap.size)
        clear hb2 hbs hbl
        (try go_wp2_with fail)
        refine hK.out _ _ (HSX.out _ (HR1.out.step HB3.out)) (fun hHeld => ?_)
        clear hK K
        try simp only [Act.put, List.setIfInBounds_toArray, List.set_cons_zero, List.set_cons_succ]
        refine wpAnyH_take (i := 11) (oi := ⟨some 52, _, _, _, _, _⟩) (v := ?vqb1x11) rfl (by kernel_rfl) (by kernel_rfl) (by kernel_rfl) (fun _ _ _ h => h) (Or.inl ⟨by rfl, ?hyqb1x11⟩) (by assumption) ?restqb1x11
        case hyqb1x11 => (intro wz hSw; (try dsimp only at hSw); go_simp <;> (try with_reducible rfl))
        try simp only [Act.put, List.setIfInBounds_toArray, List.set_cons_zero, List.set_cons_succ]
        have HP5 := keep (part_setCells w1.heap.size [.string s, .int .i64 p, .int .i64 (R.mo.N s : Nat), .bool tx, .slice A5 n5 c5] 0 w2)
        have HRow := keep (show (World.setCells w2 w1.heap.size 0 [.string s, .int .i64 p, .int .i64 (R.mo.N s : Nat), .bool tx, .slice A5 n5 c5]).heap[w1.heap.size]? = some (.cells #[.string s, .int .i64 p, .int .i64 (R.mo.N s : Nat), .bool tx, .slice A5 n5 c5] 49 (0, 0)) from setCells_whole [.string s, .int .i64 p, .int .i64 (R.mo.N s : Nat), .bool tx, .slice A5 n5 c5] [] _ w2 HZ.out rfl)
        have HBo := keep (show ow w1.heap.size = none from HOK.out.free (Nat.le_trans HB1.out.size HBG.out))
        have HB5 := keep (show Below w1.heap.size w1 (World.setCells w2 w1.heap.size 0 [.string s, .int .i64 p, .int .i64 (R.mo.N s : Nat), .bool tx, .slice A5 n5 c5]) from HB3.out.trans (HP5.out.below HB3.out.size (fun k hk => by rw [hk]; exact HBG.out)))
        have HAD := HR1.out.dat (W' := (World.setCells w2 w1.heap.size 0 [.string s, .int .i64 p, .int .i64 (R.mo.N s : Nat), .bool tx, .slice A5 n5 c5])) HB5.out (A := A5) (fun a ha => ⟨(HBL3.out a ha).1, Nat.lt_of_lt_of_le (HBL3.out a ha).2 HP5.out.size⟩)
        have HR5 := keep HAD.1
        have HEX := keep (show Ext W ow (owD ow A5) from fun k hk => HAD.2 k (Nat.lt_of_lt_of_le hk HB1.out.size))
        clear HAD
        have HRO := keep (HR1.out.step HB5.out)
        have HBI := keep (show owD ow A5 w1.heap.size = none ∧ w1.heap.size < (World.setCells w2 w1.heap.size 0 [.string s, .int .i64 p, .int .i64 (R.mo.N s : Nat), .bool tx, .slice A5 n5 c5]).heap.size from ⟨by cases hA : A5 with | none => exact HBo.out | some a => exact (put_other (fun e => by have h9 := HBLX.out a hA; omega)).trans HBo.out, (Array.getElem?_eq_some_iff.1 HRow.out).1⟩)
        have HY5 := keep (show IV (owD ow A5) (World.setCells w2 w1.heap.size 0 [.string s, .int .i64 p, .int .i64 (R.mo.N s : Nat), .bool tx, .slice A5 n5 c5]) ⟨s, p, (R.mo.N s : Nat), tx, (A5, n5, c5), bs⟩ from ⟨bs_part HBS3.out HP5.out (fun a ha e => by have := (HBLX.out a ha); omega), fun a ha => ⟨by obtain rfl : A5 = some a := ha; exact put_same, Nat.lt_of_lt_of_le (HBL3.out a ha).2 HP5.out.size⟩, by show bs.length ≤ 16384; have := HH.out.2.2.2.2.1; have := HH.out.2.2.2.2.2.1; omega, HH.out.2.2.2.1⟩)
        have HPW := keep (show Part (All ow) W (World.setCells w2 w1.heap.size 0 [.string s, .int .i64 p, .int .i64 (R.mo.N s : Nat), .bool tx, .slice A5 n5 c5]) from Part.of_below _ (HB1.out.trans (HB5.out.mono HB1.out.size)))
        refine wpAnyH_ready (rs := [13]) (by kernel_rfl) (by simp) (AllReadyH.cons (o := ⟨none, _, _, _, _, _⟩) rfl (fun K hK => ?_) AllReadyH.nil)
        refine step_store rfl 49 (.tmp 12) (.tmp 52) rfl w1.heap.size 0 _ rfl rfl (there_of HZ.out 0 5 (by decide)) (by kernel_rfl) (by simp [Value.oneCell']) ?_
        refine hK.out _ _ (HSX.out _ HRO.out) (fun hHeld => ?_)
        clear hK K
        try simp only [Act.put, List.setIfInBounds_toArray, List.set_cons_zero, List.set_cons_succ]
        refine wpAnyH_done (by kernel_rfl) ?_ _
        obtain ⟨W5, hW5⟩ : ∃ W5, (World.setCells w2 w1.heap.size 0 [.string s, .int .i64 p, .int .i64 (R.mo.N s : Nat), .bool tx, .slice A5 n5 c5]) = W5 := ⟨_, rfl⟩
        rw [hW5] at HR5 HRow HBI HY5 HPW HB5 HRO
        rw [hW5]
        clear hW5 HP5
        skip
        have L9 := HR5.out.lookN (s := s) (by have := HH.out.2.2.2.1; omega) W5 rfl
        obtain ⟨e0, e1, e2, e3⟩ := HR5.out.c0
        have hw9 : IntKind.i64.wrap ((R.mo.N s : Int) + 1) = (R.mo.N s : Int) + 1 := IntWalk.i64_in _ (by have := HNN.out.2; omega)
        obtain ⟨w6, hrun6, hM6, hgr6, hsz6⟩ := HR5.out.pb.store (e := 3) Try.underlying9 Try.underlying61 (n := s) (by have := HH.out.2.2.2.1; unfold maxLen; omega) (by have := HR5.out.cq; have := HH.out.2.2.1; unfold maxLen; omega) (.int .i64 ((R.mo.N s : Int) + 1))
        obtain ⟨R6, k1, k2, k3, k4⟩ := HR5.out.pub (by split <;> omega) hM6 hgr6
        have HB6 := keep (show w6.heap[w1.heap.size]? = some (.cells #[.string s, .int .i64 p, .int .i64 (R.mo.N s : Nat), .bool tx, .slice A5 n5 c5] 49 (0, 0)) from (hgr6.block w1.heap.size HBI.out.2 (fun e => by injection e with e; have h3 := HR5.out.oq; rw [← e, HBI.out.1] at h3; cases h3)).trans HRow.out)
        have hpt := Part.of_grown (S := All (owD ow A5)) hgr6 (fun k hk => by injection hk with hk; subst hk; exact ⟨_, HR5.out.oq, by simp⟩)
        have HY6 := keep (HY5.out.step hpt (fun k hk => hk.nd) (Ext.refl W5 (owD ow A5)))
        have HU6 := keep (show R6.u ≤ 100001 from by have h3 := congrArg Mo.u k3; have h4 : R6.u = R.u + 1 := h3; have := HH.out.2.2.1; omega)
        have HNP := keep (show R6.np = R.np from congrArg Mo.np k3)
        have KH := keep (hand_any k1 HY6.out (fun n m hm => by rw [k4] at hm; have h3 := (HR5.out.ms n m hm).2.2.2; have h4 : R6.u = R.u + 1 := congrArg Mo.u k3; omega) HU6.out)
        have HPB := keep (HPW.out.trans hpt fun k hk => All.back HEX.out hk)
        rw [k2, k3, HNP.out] at KH
        have c60 := upd_cell HB6.out 0 _ rfl
        have c61 := upd_cell HB6.out 1 _ rfl
        have c62 := upd_cell HB6.out 2 _ rfl
        have c63 := upd_cell HB6.out 3 _ rfl
        have c64 := upd_cell HB6.out 4 _ rfl
        dsimp only at KH
        unfold ptr at KH
        clear k1 k2 k3 k4 hM6 hgr6 hsz6 hpt e0 e1 e2
        go_wp2_with (go_at_call 43; refine KH.out.mono ?_; rintro e w7 ⟨rfl, hR7⟩; have HR7 := keep (RP.then HEX.out HPB.out hR7); clear hR7)
        go_ret2
        exact ⟨rfl, HR7.out⟩
end
end Go.Proofs.Ytnbicbnighpkjaa
