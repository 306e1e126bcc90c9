/- KAH of the stage: texts Q6, Q7, joined. -/
import Derived.Test.YtffjdknmfmlfnaaKAG
import Derived.IntWalk
set_option linter.unusedSimpArgs false
set_option linter.unusedVariables false
namespace Go.Proofs.Ytffjdknmfmlfnaa
section
open Go.RowKit
attribute [local go_sem] Oper.semAt_some

theorem due_any (s1 : Option Addr) (s2 s3 : Nat) (w : World) :
    Calls Try.prog 38 #[.slice s1 s2 s3] w fun e w' => e = .returned (.func (.func 63) #[] #[.pointer (some ⟨w.heap.size, 0, none⟩)]) ∧ w' = w.alloc (.cells #[.slice s1 s2 s3] 54) := by
  go_enter Try.func38, Try.ntmps38
  go_wp2
  go_ret
  exact ⟨rfl, rfl⟩
/-- The types of the blocks that due's iterator lays. -/
def itT (t : TypeId) : Prop := t = 54 ∨ t = 115 ∨ t = 3 ∨ t = 110
def ixD (n i : Nat) : Nat := if i < n then i else i - n
def phD (n i : Nat) : Int := if i < n then 2 else 0
def encD (ps : List Nat) (i : Nat) : Array Value := #[.pointer (some ⟨ps.getD (ixD ps.length i) 0, 0, none⟩)]
def DuX (ps : List Nat) (i : Nat) (A : World) : Prop := ∃ p, ps[ixD ps.length i]? = some p ∧ A.cell? ⟨p, 13, none⟩ = some (.int .i64 (phD ps.length i))
structure DuOwn (Bd : Nat) (s : SL) (ps : List Nat) (A : World) : Prop where
  bd : A.cell? ⟨Bd, 0, none⟩ = some (.slice s.1 s.2.1 s.2.2)
  sn : s.2.1 = ps.length
  rd : SR A s.1 (ps.map fun p => Value.pointer (some ⟨p, 0, none⟩))
  st : ∀ p ∈ ps, ∃ x, A.cell? ⟨p, 13, none⟩ = some (.int .i64 x)
/-- The blocks that due's iterator lays for one of its ranges: the box of yield, the one state asked for, in's two boxes. -/
structure DuB (N B2 S : Nat) (l : Nat) (s : SL) (x : Int) (A : World) : Prop where
  n2 : N ≤ B2
  nS : N ≤ S
  yb : A.heap[B2]? = some (.cells #[.func (.yield l) #[] #[]] 110 (0, 0))
  sb : A.heap[S]? = some (.cells #[.int .i64 x] 3 (0, 0))
  db : A.heap[S + 1]? = some (.cells #[.slice s.1 s.2.1 s.2.2] 54 (0, 0))
  tb : A.heap[S + 2]? = some (.cells #[.slice (some ⟨S, 0, none⟩) 1 1] 115 (0, 0))
theorem DuB.st {N B2 S l : Nat} {s : SL} {x : Int} {A B : World} {M : Nat} (h : DuB N B2 S l s x A) (k : StN M A B) : DuB N B2 S l s x B := ⟨h.n2, h.nS, k.cells h.yb, k.cells h.sb, k.cells h.db, k.cells h.tb⟩
theorem DuB.kp {N B2 S l : Nat} {s : SL} {x : Int} {A B : World} (h : DuB N B2 S l s x A) (k : KpT itT N A B) : DuB N B2 S l s x B :=
  ⟨h.n2, h.nS, k.typ _ _ _ _ h.n2 (.inr (.inr (.inr rfl))) h.yb, k.typ _ _ _ _ h.nS (.inr (.inr (.inl rfl))) h.sb, k.typ _ _ _ _ (by have := h.nS; omega) (.inl rfl) h.db, k.typ _ _ _ _ (by have := h.nS; omega) (.inr (.inl rfl)) h.tb⟩
theorem DuB.own {N B2 S l : Nat} {s : SL} {x : Int} {A : World} {Bd : Nat} {ps : List Nat} (h : DuB N B2 S l s x A) (o : DuOwn Bd s ps A) : InOwn (S + 1) (S + 2) s (some ⟨S, 0, none⟩, 1, 1) ps [x] A :=
  ⟨by rw [cell_of_row _ _ _ _ _ _ h.db]; rfl, by rw [cell_of_row _ _ _ _ _ _ h.tb]; rfl, o.sn, rfl, o.rd, SR.row (t := 3) (fr := (0, 0)) h.sb, o.st⟩
/-- A world between two places. -/
structure DuJ (N B2 S : Nat) (l : Nat) (s : SL) (x : Int) (D : Option Nat) (K : World → Prop) (A : World) : Prop where
  k : K A
  b : DuB N B2 S l s x A
  d : ∀ d, D = some d → N ≤ d ∧ A.heap[d]? = some (.deferred (some []))
def DuJx (N : Nat) (D : Option Nat) (Kx : World → Prop) (c : Code) (A : World) : Prop := c = .ret ∧ Kx A ∧ ∀ d, D = some d → N ≤ d ∧ A.heap[d]? = some (.deferred (some []))
theorem below_new {w : World} {b : Nat} {o p : Obj} (h : w.heap[b]? = some o) : (w.alloc p).heap[b]? = some o := ((below_lay w p).block b (Array.getElem?_eq_some_iff.1 h).1).trans h
theorem heap_new_at {W : World} {o : Obj} {g : Nat} (h : W.heap.size = g) : (W.alloc o).heap[g]? = some o := by rw [← h]; exact heap_alloc_new W o
/-- The world in which one of due's ranges begins. -/
theorem DuB.start {N B2 l : Nat} {s : SL} {x : Int} {A : World} (n2 : N ≤ B2) (hN : N ≤ A.heap.size) (hy : A.heap[B2]? = some (.cells #[.func (.yield l) #[] #[]] 110 (0, 0))) :
    DuB N B2 A.heap.size l s x (((A.alloc (.cells #[.int .i64 x] 3)).alloc (.cells #[.slice s.1 s.2.1 s.2.2] 54)).alloc (.cells #[.slice (some ⟨A.heap.size, 0, none⟩) 1 1] 115)) :=
  ⟨n2, hN, below_new (below_new (below_new hy)), below_new (below_new (heap_new_at rfl)), below_new (heap_new_at (by simp)), heap_new_at (by simp)⟩
theorem ix_two (w : World) : (Instr.index 111 (.agg #[.int .i64 2, .int .i64 0]) (.int .i64 0)).run Try.prog w = .ok (.int .i64 2) w := by kernel_rfl
theorem ix_zero (w : World) : (Instr.index 111 (.agg #[.int .i64 2, .int .i64 0]) (.int .i64 1)).run Try.prog w = .ok (.int .i64 0) w := by kernel_rfl

set_option maxRecDepth 100000 in
set_option maxHeartbeats 2000000 in
theorem due1_seq (n : Nat) (hn1 : 3 ≤ n) (Bd : Nat) (s : SL) (ps : List Nat) (hps : ps.length ≤ 1024) (w : World) :
    SeqIx Fence.wide n Try.prog 63 #[.pointer (some ⟨Bd, 0, none⟩)] (ps.length + ps.length) (encD ps) (DuX ps) (fun _ => DuOwn Bd s ps) (KpT itT (w.heap.size + 2)) w := by
  intro l K Kx W hW hK hKx hO hskip hY h0
  have hmix : Try.prog.follows .mixedOrders = true := by kernel_rfl
  have F1 : Fence.wide.fn 44 := trivial
  have qi0 := ix_two
  have qi1 := ix_zero
  have hn2 : 1 ≤ n := by omega
  have hn3 : 1 ≤ n - 1 - 1 := by omega
  rw [← hW] at hY
  have HK := keep hK
  have HKX := keep hKx
  have HO := keep hO
  have HS := keep hskip
  have HY := keep hY
  have c1 := (HO.out 0 W h0).bd
  obtain ⟨s1, s2, s3⟩ := s
  dsimp only at c1
  have hs2 : s2 = ps.length := (HO.out 0 W h0).sn
  subst hs2
  obtain ⟨W0, hW0⟩ : ∃ W0, W.alloc (.cells #[.func (.yield l) #[] #[]] 110) = W0 := ⟨_, rfl⟩
  have hy0 : W0.heap[W.heap.size]? = some (.cells #[.func (.yield l) #[] #[]] 110 (0, 0)) := by rw [← hW0]; exact heap_alloc_new W _
  have hs0 : W.heap.size ≤ W0.heap.size := by rw [← hW0]; simp
  have hk0 : K 0 W0 := HK.out 0 W W0 (StN.of_below (by rw [← hW0]; exact below_lay W _)) h0
  have c2 : W0.cell? ⟨Bd, 0, none⟩ = some (.slice s1 ps.length s3) := (HO.out 0 W0 hk0).bd
  clear hK h0 hO hskip hY hKx hW
  refine callsIn_of_wp_marks Try.func63 rfl trivial ?_ rfl
  simp only [Try.ntmps63, List.size_toArray, List.length_cons, List.length_nil, Nat.reduceAdd, Nat.reduceSub, Array.replicate_succ, Array.replicate_zero, List.push_toArray, List.append_toArray, List.nil_append, List.cons_append]
  gi_wp2
  clear hW0 c1
  refine wpIn_loop_rounds (0 + 1 + 1 + 1) ?_
  rw [roundsIn_succ]
  gi_wp2_with (gi_at_call 44; refine (callsIn_wide.2 (in_any _ _ _ _ _ _ _)).mono ?_; rintro e w' ⟨rfl, rfl⟩)
  obtain ⟨X0, hX0⟩ : ∃ X, ((W0.alloc (.cells #[.int .i64 2] 3)).alloc (.cells #[.slice s1 ps.length s3] 54)).alloc (.cells #[.slice (some ⟨W0.heap.size, 0, none⟩) 1 1] 115) = X := ⟨_, rfl⟩
  have Y0 : DuB W.heap.size W.heap.size W0.heap.size l (s1, ps.length, s3) 2 X0 := by
    rw [← hX0]
    exact DuB.start (Nat.le_refl _) hs0 hy0
  have bl0 : Below W0.heap.size W0 X0 := by
    rw [← hX0]
    exact up (up (below_lay W0 _) (below_lay _ _)) (below_lay _ _)
  have hk0' := HK.out _ _ _ (StN.of_below bl0) hk0
  have J0 : DuJ W.heap.size W.heap.size W0.heap.size l (s1, ps.length, s3) 2 none (K 0) X0 := ⟨hk0', Y0, (fun d hd => by cases hd)⟩
  have hX0s : W.heap.size ≤ X0.heap.size := Nat.le_trans hs0 bl0.size
  rw [hX0]
  have eS0 : W0.heap.size + 1 < X0.heap.size := by rw [← hX0]; simp
  try simp only [World.size_alloc] at *
  generalize W0.heap.size = S0 at *
  clear hX0 bl0 hk0' hy0 Y0 hk0
  refine rangeFunc_ix (n := n) rfl hn2 (gf := 68) (lb := #[.pointer (some ⟨S0 + 1, 0, none⟩), .pointer (some ⟨S0 + 1 + 1, 0, none⟩)]) rfl trivial (enters_of Try.func68 (by kernel_rfl) rfl) (N := ps.length) (enc := encP ps) (fun _ => rfl)
    (InX ps [2]) (fun _ => InOwn (S0 + 1) (S0 + 2) (s1, ps.length, s3) (some ⟨S0, 0, none⟩, 1, 1) ps [2]) (fun _ _ => True)
    (fun i => DuJ W.heap.size W.heap.size S0 l (s1, ps.length, s3) 2 none (K i)) (DuJx W.heap.size none Kx)
    (in1_seq (n - 1) (by omega) (S0 + 1) (S0 + 2) _ _ ps [2] hps (by decide) _ _)
    (fun i A B st h => ⟨HK.out _ _ _ (st.mono hX0s) h.k, h.b.st st, fun d hd => ⟨(h.d d hd).1, st.blk _ _ (h.d d hd).2 (by cases hd)⟩⟩)
    (fun c A B st h => ⟨h.1, HKX.out _ _ (st.mono hX0s) h.2.1, fun d hd => ⟨(h.2.2 d hd).1, st.blk _ _ (h.2.2 d hd).2 (by cases hd)⟩⟩)
    (fun i A B st h => by
      obtain ⟨p, y, h1, h2, h3⟩ := h
      exact ⟨p, y, h1, st.cell h2, h3⟩)
    (fun _ _ _ _ _ _ _ _ _ _ _ _ _ _ => trivial)
    (fun i A h => h.b.own (HO.out _ A h.k))
    (fun i A hi h hx => ⟨HS.out i A (by omega) h.k (fun hh => hx (by
      obtain ⟨p, h1, h2⟩ := hh
      rw [show ixD ps.length i = i from if_pos hi] at h1
      rw [show phD ps.length i = 2 from if_pos hi] at h2
      exact ⟨p, _, h1, h2, List.mem_singleton.2 rfl⟩)), h.b, h.d⟩)
    J0 ?round0 ?done0 ?stop0
  case round0 =>
    rintro l' i A hl hi hJ hx
    obtain ⟨p, _, hp, _, _⟩ := hx
    have hge : ps.getD i 0 = p := by rw [List.getD_eq_getElem?_getD, hp]; rfl
    simp only [Array.zip, encP]
    rw [hge]
    have HP := keep hp
    have HGE := keep hge
    clear hJ hp hge
    gi_wp2
    refine ⟨by first | rfl | trivial, fun A2 hJ2 hx2 => ?_⟩
    have hp := HP.out
    have hge := HGE.out
    obtain ⟨p', y, hp', hy2, hm⟩ := hx2
    rw [hp] at hp'
    injection hp' with hp'
    subst hp'
    obtain rfl : y = 2 := by simpa using hm
    obtain ⟨fn, tmps, assign, body, hyy, hR⟩ := HY.out i A2 (by omega) hJ2.k ⟨p, by rw [show ixD ps.length i = i from if_pos hi]; exact hp, by rw [show phD ps.length i = 2 from if_pos hi]; exact hy2⟩
    unfold encD at hyy
    rw [show ixD ps.length i = i from if_pos hi, hge] at hyy
    have HJ2 := keep hJ2
    have HR := keep (hR.mono (R' := fun e W' => ∃ r : Bool, e = .returned (.bool r) ∧ Hid ((if r = true then K (i + 1) W' else Kx W') ∧ KpT itT W.heap.size A2 W')) (by
      rintro e W' (⟨h1, h2, h3⟩ | ⟨h1, h2, h3⟩)
      · exact ⟨true, h1, keep ⟨by rw [if_pos rfl]; exact h2, h3⟩⟩
      · exact ⟨false, h1, keep ⟨by rw [if_neg (by decide)]; exact h2, h3⟩⟩))
    have hyb : A2.cell? ⟨W.heap.size, 0, none⟩ = some (.func (.yield l) #[] #[]) := by rw [cell_of_row _ _ _ _ _ _ hJ2.b.yb]; rfl
    clear hR hJ2 hp hy2 hm hge
    gi_wp2
    refine (RoundIn.wideIn HR.out).mono ?_
    rintro e W3 ⟨r, rfl, hK3⟩
    have kb := HJ2.out.b.kp hK3.out.2
    have kd : ∀ d, none = some d → W.heap.size ≤ d ∧ W3.heap[d]? = some (.deferred (some [])) := fun d hd => ⟨(HJ2.out.d d hd).1, hK3.out.2.oth _ _ (HJ2.out.d d hd).1 (HJ2.out.d d hd).2 rfl⟩
    have kf : KeepsFrom X0.heap.size A2 W3 := ⟨hK3.out.2.size, fun b o hb ho hc => hK3.out.2.oth b o (by omega) ho hc⟩
    have H3 := keep (And.intro kb (And.intro kd kf))
    clear kb kd kf hyy hyb HR
    cases r
    · have hx3 := hK3.out.1
      rw [if_neg (by decide)] at hx3
      replace hx3 := keep hx3
      clear hK3
      gi_wp2
      exact ⟨H3.out.2.2, trivial, rfl, hx3.out, H3.out.2.1⟩
    · have hx3 := hK3.out.1
      rw [if_pos rfl] at hx3
      replace hx3 := keep hx3
      clear hK3
      gi_wp2
      exact ⟨H3.out.2.2, trivial, hx3.out, H3.out.1, H3.out.2.1⟩
  case done0 =>
    intro D1 W1 hD hJ hDd
    have hs1 : W.heap.size ≤ W1.heap.size := by have := (Array.getElem?_eq_some_iff.1 hJ.b.yb).1; omega
    have hy1 := hJ.b.yb
    have hk1 := hJ.k
    have hd1 : W.heap.size ≤ D1 ∧ W1.heap[D1]? = some (.deferred (some [])) := ⟨by omega, hDd⟩
    have c3 : W1.cell? ⟨Bd, 0, none⟩ = some (.slice s1 ps.length s3) := (HO.out _ W1 hk1).bd
    clear hJ J0 eS0 hD hDd c2 hX0s
    gi_wp2
    rw [roundsIn_succ]
    gi_wp2_with (gi_at_call 44; refine (callsIn_wide.2 (in_any _ _ _ _ _ _ _)).mono ?_; rintro e w' ⟨rfl, rfl⟩)
    obtain ⟨X1, hX1⟩ : ∃ X, ((W1.alloc (.cells #[.int .i64 0] 3)).alloc (.cells #[.slice s1 ps.length s3] 54)).alloc (.cells #[.slice (some ⟨W1.heap.size, 0, none⟩) 1 1] 115) = X := ⟨_, rfl⟩
    have Y1 : DuB W.heap.size W.heap.size W1.heap.size l (s1, ps.length, s3) 0 X1 := by
      rw [← hX1]
      exact DuB.start (Nat.le_refl _) hs1 hy1
    have bl1 : Below W1.heap.size W1 X1 := by
      rw [← hX1]
      exact up (up (below_lay W1 _) (below_lay _ _)) (below_lay _ _)
    have hk1' := HK.out _ _ _ (StN.of_below bl1) hk1
    have hd1' : X1.heap[D1]? = some (.deferred (some [])) := (bl1.block _ (Array.getElem?_eq_some_iff.1 hd1.2).1).trans hd1.2
    have hD1s : D1 < X1.heap.size := (Array.getElem?_eq_some_iff.1 hd1').1
    have J1 : DuJ W.heap.size W.heap.size W1.heap.size l (s1, ps.length, s3) 0 (some D1) (K (ps.length + 0)) X1 := ⟨hk1', Y1, (fun d hd => by cases hd; exact ⟨hd1.1, hd1'⟩)⟩
    have hX1s : W.heap.size ≤ X1.heap.size := Nat.le_trans hs1 bl1.size
    rw [hX1]
    have eS1 : W1.heap.size + 1 < X1.heap.size := by rw [← hX1]; simp
    try simp only [World.size_alloc] at *
    generalize W1.heap.size = S1 at *
    clear hX1 bl1 hk1' hy1 Y1 hk1
    refine rangeFunc_ix (n := n) rfl hn2 (gf := 68) (lb := #[.pointer (some ⟨S1 + 1, 0, none⟩), .pointer (some ⟨S1 + 1 + 1, 0, none⟩)]) rfl trivial (enters_of Try.func68 (by kernel_rfl) rfl) (N := ps.length) (enc := encP ps) (fun _ => rfl)
      (InX ps [0]) (fun _ => InOwn (S1 + 1) (S1 + 2) (s1, ps.length, s3) (some ⟨S1, 0, none⟩, 1, 1) ps [0]) (fun _ _ => True)
      (fun i => DuJ W.heap.size W.heap.size S1 l (s1, ps.length, s3) 0 (some D1) (K (ps.length + i))) (DuJx W.heap.size (some D1) Kx)
      (in1_seq (n - 1) (by omega) (S1 + 1) (S1 + 2) _ _ ps [0] hps (by decide) _ _)
      (fun i A B st h => ⟨HK.out _ _ _ (st.mono hX1s) h.k, h.b.st st, fun d hd => ⟨(h.d d hd).1, st.blk _ _ (h.d d hd).2 (by cases hd; exact .inr hD1s)⟩⟩)
      (fun c A B st h => ⟨h.1, HKX.out _ _ (st.mono hX1s) h.2.1, fun d hd => ⟨(h.2.2 d hd).1, st.blk _ _ (h.2.2 d hd).2 (by cases hd; exact .inr hD1s)⟩⟩)
      (fun i A B st h => by
        obtain ⟨p, y, h1, h2, h3⟩ := h
        exact ⟨p, y, h1, st.cell h2, h3⟩)
      (fun _ _ _ _ _ _ _ _ _ _ _ _ _ _ => trivial)
      (fun i A h => h.b.own (HO.out _ A h.k))
      (fun i A hi h hx => ⟨HS.out (ps.length + i) A (by omega) h.k (fun hh => hx (by
        obtain ⟨p, h1, h2⟩ := hh
        rw [show ixD ps.length (ps.length + i) = i by unfold ixD; rw [if_neg (by omega)]; omega] at h1
        rw [show phD ps.length (ps.length + i) = 0 from if_neg (by omega)] at h2
        exact ⟨p, _, h1, h2, List.mem_singleton.2 rfl⟩)), h.b, h.d⟩)
      J1 ?round1 ?done1 ?stop1
    case round1 =>
      rintro l' i A hl hi hJ hx
      obtain ⟨p, _, hp, _, _⟩ := hx
      have hge : ps.getD i 0 = p := by rw [List.getD_eq_getElem?_getD, hp]; rfl
      simp only [Array.zip, encP]
      rw [hge]
      have HP := keep hp
      have HGE := keep hge
      clear hJ hp hge
      gi_wp2
      refine ⟨by first | rfl | trivial, fun A2 hJ2 hx2 => ?_⟩
      have hp := HP.out
      have hge := HGE.out
      obtain ⟨p', y, hp', hy2, hm⟩ := hx2
      rw [hp] at hp'
      injection hp' with hp'
      subst hp'
      obtain rfl : y = 0 := by simpa using hm
      obtain ⟨fn, tmps, assign, body, hyy, hR⟩ := HY.out (ps.length + i) A2 (by omega) hJ2.k ⟨p, by rw [show ixD ps.length (ps.length + i) = i by unfold ixD; rw [if_neg (by omega)]; omega]; exact hp, by rw [show phD ps.length (ps.length + i) = 0 from if_neg (by omega)]; exact hy2⟩
      unfold encD at hyy
      rw [show ixD ps.length (ps.length + i) = i by unfold ixD; rw [if_neg (by omega)]; omega, hge] at hyy
      have HJ2 := keep hJ2
      have HR := keep (hR.mono (R' := fun e W' => ∃ r : Bool, e = .returned (.bool r) ∧ Hid ((if r = true then K (ps.length + i + 1) W' else Kx W') ∧ KpT itT W.heap.size A2 W')) (by
        rintro e W' (⟨h1, h2, h3⟩ | ⟨h1, h2, h3⟩)
        · exact ⟨true, h1, keep ⟨by rw [if_pos rfl]; exact h2, h3⟩⟩
        · exact ⟨false, h1, keep ⟨by rw [if_neg (by decide)]; exact h2, h3⟩⟩))
      have hyb : A2.cell? ⟨W.heap.size, 0, none⟩ = some (.func (.yield l) #[] #[]) := by rw [cell_of_row _ _ _ _ _ _ hJ2.b.yb]; rfl
      clear hR hJ2 hp hy2 hm hge
      gi_wp2
      refine (RoundIn.wideIn HR.out).mono ?_
      rintro e W3 ⟨r, rfl, hK3⟩
      have kb := HJ2.out.b.kp hK3.out.2
      have kd : ∀ d, (some D1) = some d → W.heap.size ≤ d ∧ W3.heap[d]? = some (.deferred (some [])) := fun d hd => ⟨(HJ2.out.d d hd).1, hK3.out.2.oth _ _ (HJ2.out.d d hd).1 (HJ2.out.d d hd).2 rfl⟩
      have kf : KeepsFrom X1.heap.size A2 W3 := ⟨hK3.out.2.size, fun b o hb ho hc => hK3.out.2.oth b o (by omega) ho hc⟩
      have H3 := keep (And.intro kb (And.intro kd kf))
      clear kb kd kf hyy hyb HR
      cases r
      · have hx3 := hK3.out.1
        rw [if_neg (by decide)] at hx3
        replace hx3 := keep hx3
        clear hK3
        gi_wp2
        exact ⟨H3.out.2.2, trivial, rfl, hx3.out, H3.out.2.1⟩
      · have hx3 := hK3.out.1
        rw [if_pos rfl] at hx3
        replace hx3 := keep hx3
        clear hK3
        gi_wp2
        exact ⟨H3.out.2.2, trivial, hx3.out, H3.out.1, H3.out.2.1⟩
    case done1 =>
      intro D2 A hD hJ hDd
      have hkA := keep hJ.k
      have hdA := keep (hJ.d D1 rfl)
      have hne : D1 ≠ D2 := by omega
      have hDN : W.heap.size ≤ D2 := by omega
      clear hJ J1
      gi_wp2
      rw [roundsIn_succ]
      gi_wp2
      have k1 := StN.putObj (N := W.heap.size) (.deferred none) hDd rfl hDN
      have hd' : (A.putObj D2 (.deferred none)).heap[D1]? = some (.deferred (some [])) := (World.putObj_heap_other hne).trans hdA.out.2
      have k2 := StN.putObj (N := W.heap.size) (.deferred none) hd' rfl hdA.out.1
      refine ⟨by simp, .inl ⟨_, _, rfl, run_takeDeferred hDd, ?_⟩⟩
      refine ⟨by simp, .inl ⟨_, _, rfl, run_takeDeferred hd', ?_⟩⟩
      exact ⟨_, results_none rfl _ _ _, ⟨_, rfl⟩, .inl (HK.out _ _ _ (k1.trans k2) hkA.out)⟩
    case stop1 =>
      intro D2 c A hD hJ hDd
      obtain ⟨rfl, hkA, hdA⟩ := hJ
      have hdA := hdA D1 rfl
      have hne : D1 ≠ D2 := by omega
      have hDN : W.heap.size ≤ D2 := by omega
      gi_wp2
      have k1 := StN.putObj (N := W.heap.size) (.deferred none) hDd rfl hDN
      have hd' : (A.putObj D2 (.deferred none)).heap[D1]? = some (.deferred (some [])) := (World.putObj_heap_other hne).trans hdA.2
      have k2 := StN.putObj (N := W.heap.size) (.deferred none) hd' rfl hdA.1
      refine ⟨by simp, .inl ⟨_, _, rfl, run_takeDeferred hDd, ?_⟩⟩
      refine ⟨by simp, .inl ⟨_, _, rfl, run_takeDeferred hd', ?_⟩⟩
      exact ⟨_, results_none rfl _ _ _, ⟨_, rfl⟩, .inr (HKX.out _ _ (k1.trans k2) hkA)⟩
  case stop0 =>
    intro D1 c A hD hJ hDd
    obtain ⟨rfl, hkA, hdA⟩ := hJ
    have hDN : W.heap.size ≤ D1 := by omega
    gi_wp2
    have k1 := StN.putObj (N := W.heap.size) (.deferred none) hDd rfl hDN
    refine ⟨by simp, .inl ⟨_, _, rfl, run_takeDeferred hDd, ?_⟩⟩
    exact ⟨_, results_none rfl _ _ _, ⟨_, rfl⟩, .inr (HKX.out _ _ k1 hkA)⟩
end
section
open Go.RowKit
attribute [local go_sem] Oper.semAt_some

/-- The octets of those of the first places that are told. -/
def sumF (f : Nat → Option Nat) : Nat → Nat
  | 0 => 0
  | k + 1 => sumF f k + (f k).getD 0
theorem sumF_le (f : Nat → Option Nat) (hb : ∀ i n, f i = some n → n ≤ 1000000) : ∀ k, sumF f k ≤ k * 1000000
  | 0 => by simp [sumF]
  | k + 1 => by
    rw [sumF, Nat.add_mul, Nat.one_mul]
    refine Nat.add_le_add (sumF_le f hb k) ?_
    cases h : f k with
    | none => exact Nat.zero_le _
    | some n => exact hb k n h
structure SumJ (w : World) (s : Nat) (A : World) : Prop where
  below : Below w.heap.size w A
  tb : A.heap[w.heap.size]? = some (.cells #[.func (.func 40) #[] #[]] 89 (0, 0))
  nb : A.heap[w.heap.size + 1]? = some (.cells #[.int .i64 (s : Int)] 3 (0, 0))
theorem SumJ.st {w : World} {s : Nat} {A B : World} {N : Nat} (h : SumJ w s A) (k : StN N A B) (hN : w.heap.size ≤ N) : SumJ w s B := ⟨k.below h.below hN, k.cells h.tb, k.cells h.nb⟩
set_option maxRecDepth 100000 in
set_option maxHeartbeats 2000000 in
theorem sum_any (gf : Nat) (lb : Array Value) (eg : ∀ args w, (callFunc gf args).run Try.prog w = .ok (.enter gf args) w) (N : Nat) (ps : List Nat) (X Own : Nat → World → Prop) (f : Nat → Option Nat) (w : World)
    (hit : ∀ w1, SeqIx Fence.wide 4 Try.prog gf lb N (encP ps) X Own (fun _ _ => True) w1)
    (hXs : ∀ i A B M, StN M A B → X i A → X i B)
    (hX : ∀ i A, i < N → Below w.heap.size w A → (X i A ↔ (f i).isSome = true))
    (hown : ∀ i A, Below w.heap.size w A → Own i A)
    (hlen : ∀ i A n, i < N → Below w.heap.size w A → f i = some n → ∃ a c, A.cell? ⟨ps.getD i 0, 11, none⟩ = some (.slice a n c))
    (hb : ∀ i n, f i = some n → n ≤ 1000000) (hN : N ≤ 1024) :
    Calls Try.prog 46 #[.func (.func gf) #[] lb, .func (.func 40) #[] #[]] w fun e w' => e = .returned (.int .i64 ((sumF f N : Nat) : Int)) ∧ Below w.heap.size w w' := by
  have hmix : Try.prog.follows .mixedOrders = true := by kernel_rfl
  have F1 : Fence.wide.fn 40 := trivial
  have F2 : (Fence.wide.inRound 0).fn 40 := trivial
  have HIT := keep hit
  have HXS := keep hXs
  have HX := keep hX
  have HOW := keep hown
  have HL := keep hlen
  have HB := keep hb
  have HN := keep hN
  clear hit hXs hX hown hlen hb hN
  refine (callsIn_wide (n := 5)).1 ?_
  refine callsIn_of_wp_marks Try.func46 rfl trivial ?_ rfl
  simp only [Try.ntmps46, List.size_toArray, List.length_cons, List.length_nil, Nat.reduceAdd, Nat.reduceSub, Array.replicate_succ, Array.replicate_zero, List.push_toArray, List.append_toArray, List.nil_append, List.cons_append]
  gi_wp2
  obtain ⟨W0, hW0⟩ : ∃ W0, (w.alloc (.cells #[.func (.func 40) #[] #[]] 89)).alloc (.cells #[.int .i64 0] 3) = W0 := ⟨_, rfl⟩
  have J0 : SumJ w 0 W0 := by
    rw [← hW0]
    exact ⟨up (below_lay w _) (below_lay _ _), below_new (heap_new_at rfl), heap_new_at (by simp)⟩
  have hs0 : w.heap.size ≤ W0.heap.size := J0.below.size
  rw [hW0]
  clear hW0
  refine rangeFunc_ix (n := 5) rfl (by omega) (gf := gf) (lb := lb) rfl trivial eg (N := N) (enc := encP ps) (fun _ => rfl)
    X Own (fun _ _ => True) (fun i => SumJ w (sumF f i)) (fun _ _ => False) (HIT.out _)
    (fun i A B st h => h.st st hs0) (fun _ _ _ _ h => h) (fun i A B st h => HXS.out i A B _ st h) (fun _ _ _ _ _ _ _ _ _ _ _ _ _ _ => trivial)
    (fun i A h => HOW.out i A h.below)
    (fun i A hi h hx => by
      have hn : f i = none := by
        cases hf : f i with
        | none => rfl
        | some n => exact absurd ((HX.out i A hi h.below).2 (by rw [hf]; rfl)) hx
      show SumJ w (sumF f i + (f i).getD 0) A
      rw [hn]
      exact h)
    J0 ?round ?done (fun _ _ _ _ h _ => h.elim)
  case round =>
    rintro l i A hl hi hJ hx
    have hsome := (HX.out i A hi hJ.below).1 hx
    obtain ⟨n, hn⟩ := Option.isSome_iff_exists.1 hsome
    have HNN := keep hn
    obtain ⟨p, hp⟩ : ∃ p, ps.getD i 0 = p := ⟨_, rfl⟩
    simp only [Array.zip, encP]
    rw [hp]
    have HP := keep hp
    have HI := keep hi
    clear hJ hx hsome hn hp hi
    gi_wp2
    refine ⟨by first | rfl | trivial, fun A2 hJ2 hx2 => ?_⟩
    obtain ⟨a, c, hc⟩ := HL.out i A2 n HI.out hJ2.below HNN.out
    rw [HP.out] at hc
    have hcd : A2.drew.cell? ⟨p, 11, none⟩ = some (.slice a n c) := hc
    have KO := keep (octets_at p a n c A2.drew hcd)
    have ct : A2.cell? ⟨w.heap.size, 0, none⟩ = some (.func (.func 40) #[] #[]) := by rw [cell_of_row _ _ _ _ _ _ hJ2.tb]; rfl
    have cn : A2.cell? ⟨w.heap.size + 1, 0, none⟩ = some (.int .i64 ((sumF f i : Nat) : Int)) := by rw [cell_of_row _ _ _ _ _ _ hJ2.nb]; rfl
    have fn' : A2.frozen? ⟨w.heap.size + 1, 0, none⟩ = false := by simp [World.frozen?, hJ2.nb]
    have hbd : IntKind.i64.wrap (((sumF f i : Nat) : Int) + (n : Int)) = ((sumF f (i + 1) : Nat) : Int) := by
      have h1 := sumF_le f HB.out (i + 1)
      have h2 : sumF f (i + 1) = sumF f i + n := by rw [sumF, HNN.out]; rfl
      have h3 : (i + 1) * 1000000 ≤ 1024 * 1000000 := Nat.mul_le_mul_right _ (by have := HN.out; have := HI.out; omega)
      rw [h2] at h1 ⊢
      rw [Int.natCast_add]
      exact IntWalk.i64_in _ (by omega)
    have HJ2 := keep hJ2
    clear hJ2 hx2 hc hcd
    generalize sumF f (i + 1) = s' at *
    generalize sumF f i = s at *
    first | (gi_wp2; gi_region_with_o (gi_at_call 40; refine (CallsIn.inRound l (callsIn_wide.2 KO.out)).mono ?_; rintro e w' ⟨rfl, rfl⟩)) | fail
    all_goals gi_wp2
    all_goals
      refine ⟨((KeepsOthers.drew A2).trans (KeepsOthers.setCell _ _ _)).from _, trivial, (HJ2.out.below.drew).setCell (p := ⟨w.heap.size + 1, 0, none⟩) (Nat.le_succ _) _, ?_, ?_⟩
      · exact (Below.heap_setCell A2.drew ⟨w.heap.size + 1, 0, none⟩ _ w.heap.size (by simp)).trans HJ2.out.tb
      · exact heap_setCell_same A2.drew (w.heap.size + 1) 0 _ _ _ HJ2.out.nb
  case done =>
    intro D A hD hJ hDd
    have cn : A.cell? ⟨w.heap.size + 1, 0, none⟩ = some (.int .i64 ((sumF f N : Nat) : Int)) := by rw [cell_of_row _ _ _ _ _ _ hJ.nb]; rfl
    have HJ := keep hJ
    clear hJ
    gi_wp2
    have k1 := StN.putObj (N := w.heap.size) (.deferred none) hDd rfl (by omega)
    refine ⟨by simp, .inl ⟨_, _, rfl, run_takeDeferred hDd, ?_⟩⟩
    exact ⟨_, results_tmp rfl _ _ _, rfl, k1.below HJ.out.below (Nat.le_refl _)⟩
end
end Go.Proofs.Ytffjdknmfmlfnaa
