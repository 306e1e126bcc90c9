/- KBA of the stage: texts Q25, Q26, Q27, joined. -/
import Derived.Test.YtffjdknmfmlfnaaKAY
import Derived.Test.YtffjdknmfmlfnaaKAZ
import Derived.Laws.ResultCell
set_option linter.unusedSimpArgs false
set_option linter.unusedVariables false
namespace Go.Proofs.Ytffjdknmfmlfnaa
section
open Go.RowKit Go.Maps

/-- The numbers of the entries, one behind the other. -/
def Nums (q : Qm) : Prop := ∀ (i : Nat) (e : En), q.es[i]? = some e → e.c.a = (flr q + (i : Int) + 1) % 4294967296
theorem dist_of (a b : Int) (k : Nat) (hk : (k : Int) < 4294967296) (h : b = (a + (k : Int)) % 4294967296) : dist32 a b = (k : Int) := by
  unfold dist32 dist
  subst h
  omega
theorem less_of (f : Int) (i j : Nat) (hi : i < 1025) (hj : j < 1025) : less32 ((f + (i : Int) + 1) % 4294967296) ((f + (j : Int) + 1) % 4294967296) = decide (i < j) := by
  unfold less32 lessI dist
  rw [Bool.eq_iff_iff, decide_eq_true_eq, decide_eq_true_eq]
  omega
theorem cut_flr (q : Qm) (k : Nat) (hk : k ≤ q.es.length) : flr (cutQ q k) = (flr q + (k : Int)) % 4294967296 := by
  unfold flr cutQ
  simp only [List.length_drop]
  omega
theorem cut_nums {q : Qm} (h : Nums q) {k : Nat} (hk : k ≤ q.es.length) : Nums (cutQ q k) := by
  intro i e he
  rw [cut_flr q k hk]
  have he' : q.es[k + i]? = some e := by
    rw [← List.getElem?_drop]
    exact he
  rw [h _ _ he']
  omega
/-- A number that is reached is the floor behind the entries that go away. -/
theorem reached_flr {q : Qm} {cum : Int} (hc : 0 ≤ cum ∧ cum < 4294967296) (h : reachedB q cum = true) : flr (cutQ q (stp q cum)) = cum := by
  rw [cut_flr q _ (stp_le q cum)]
  have hf := flr_in q
  unfold reachedB at h
  rw [Bool.and_eq_true, Bool.or_eq_true, decide_eq_true_eq, beq_iff_eq] at h
  have hs : stp q cum = if dist32 (flr q) cum ≤ (q.es.length : Int) then (dist32 (flr q) cum).toNat else 0 := rfl
  have hd : dist32 (flr q) cum = (cum - flr q) % 4294967296 := rfl
  rcases h.1 with h1 | h1
  · rw [hs] at h1 ⊢
    split at h1
    · rename_i hle
      rw [if_pos hle, hd] at *
      omega
    · omega
  · subst h1
    rw [hs, hd]
    split <;> omega
theorem come_dist {q : Qm} (h : Nums q) (hle : q.es.length ≤ 1024) {cum : Int} (hf : flr q = cum) : ∀ (i : Nat) (e : En), q.es[i]? = some e → dist32 cum e.c.a = ((i + 1 : Nat) : Int) := by
  intro i e he
  have hi := (List.getElem?_eq_some_iff.1 he).1
  refine dist_of cum e.c.a (i + 1) (by omega) ?_
  rw [h i e he, hf]
  congr 1
  omega
theorem ES.part {A B : World} {s : SL} {es : List En} (h : ES A s es) {S : Nat → Prop} (hp : Part S A B) (hs : InF (fun i => ¬ S i) s.1) (he : ∀ e ∈ es, ¬ S e.p) : ES B s es :=
  ⟨h.sn, (Kpt.of_part hp fun _ h => h).sr hs h.rd, fun e hm => ⟨(Kpt.of_part (ok := fun i => ¬ S i) hp fun _ h => h).cells _ _ _ _ (he e hm) (h.en e hm).1, (h.en e hm).2⟩⟩
theorem comeE_c (bl : List (Int × Int)) (i : Nat) (e : En) : (comeE bl i e).c = e.c := by
  unfold comeE
  split <;> split <;> rfl
/-- Where the last one lies that came. -/
def lastI (bl : List (Int × Int)) (es : List En) : Nat → Nat
  | 0 => 0
  | k + 1 => match es[k]? with | some e => if toldB bl k = true ∧ (e.st = 1 ∨ e.st = 2) then k else lastI bl es k | none => lastI bl es k
theorem cam_mem {bl : List (Int × Int)} {es : List En} : ∀ {k : Nat} {x : En}, x ∈ camG bl es k → ∃ i e, i < k ∧ es[i]? = some e ∧ x = { e with st := 3 } ∧ x = comeE bl i e
  | 0, x, h => by cases h
  | k + 1, x, h => by
    rw [camG] at h
    rcases List.mem_append.1 h with h | h
    · obtain ⟨i, e, h1, h2⟩ := cam_mem h
      exact ⟨i, e, by omega, h2⟩
    · cases he : es[k]? with
      | none => rw [he] at h; cases h
      | some e =>
        rw [he] at h
        dsimp only at h
        split at h
        · rename_i hc
          refine ⟨k, e, Nat.lt_succ_self k, he, List.mem_singleton.1 h, ?_⟩
          rw [List.mem_singleton.1 h]
          unfold comeE
          rw [if_pos hc.1, if_pos hc.2]
        · cases h
theorem cam_last {bl : List (Int × Int)} {es : List En} : ∀ {k : Nat}, camG bl es k ≠ [] → ∃ e, lastI bl es k < k ∧ es[lastI bl es k]? = some e ∧ (camG bl es k)[(camG bl es k).length - 1]? = some { e with st := 3 }
  | 0, h => absurd rfl h
  | k + 1, h => by
    cases he : es[k]? with
    | none =>
      have e1 : camG bl es (k + 1) = camG bl es k := by rw [camG, he]; exact List.append_nil _
      have e2 : lastI bl es (k + 1) = lastI bl es k := by rw [lastI, he]
      rw [e1] at h
      obtain ⟨e, h1, h2, h3⟩ := cam_last h
      exact ⟨e, by rw [e2]; omega, by rw [e2]; exact h2, by rw [e1]; exact h3⟩
    | some e =>
      by_cases hc : toldB bl k = true ∧ (e.st = 1 ∨ e.st = 2)
      · have e1 : camG bl es (k + 1) = camG bl es k ++ [{ e with st := 3 }] := by rw [camG, he]; dsimp only; rw [if_pos hc]
        have e2 : lastI bl es (k + 1) = k := by rw [lastI, he]; dsimp only; rw [if_pos hc]
        refine ⟨e, by rw [e2]; omega, by rw [e2]; exact he, ?_⟩
        rw [e1, List.length_append, List.length_singleton, Nat.add_sub_cancel, List.getElem?_append_right (Nat.le_refl _), Nat.sub_self]
        rfl
      · have e1 : camG bl es (k + 1) = camG bl es k := by rw [camG, he]; dsimp only; rw [if_neg hc]; exact List.append_nil _
        have e2 : lastI bl es (k + 1) = lastI bl es k := by rw [lastI, he]; dsimp only; rw [if_neg hc]
        rw [e1] at h
        obtain ⟨e, h1, h2, h3⟩ := cam_last h
        exact ⟨e, by rw [e2]; omega, by rw [e2]; exact h2, by rw [e1]; exact h3⟩
theorem com_es {w : World} {G : Gq} {q : Qm} {bl : List (Int × Int)} {s : SL} {w' : World} (h : ComP w G q bl s w') : ES w' s (camG bl q.es q.es.length) := by
  obtain ⟨s1, s2, s3⟩ := s
  have hrow := h.row
  have hn : s2 = (camG bl q.es q.es.length).length := by
    have := hrow.1
    rw [List.length_map] at this
    dsimp only at this
    omega
  refine ⟨hn, ?_, fun e he => ?_⟩
  · have h1 : w'.ownsRow w.heap.size 75 1 (.slice s1 s2 s3) s2 (flatF ptC ((camG bl q.es q.es.length).map En.p)) := by rw [flat_ptr]; exact hrow
    have := (LR.of_own (f := ptC) (K := 1) ptC_len (by decide) h1).2.2
    rwa [flat_ptr] at this
  · obtain ⟨i, x, h1, h2, h3, h4⟩ := cam_mem he
    have hm : e ∈ q.es.mapIdx (comeE bl) := List.mem_of_getElem? (i := i) (by rw [List.getElem?_mapIdx, h2, h4]; rfl)
    have := (h.qa.en e hm).1
    exact ⟨this.blk, this.sm⟩
def octA (es : List En) (i : Nat) : Option Nat := (es[i]?).map fun e => e.c.da.2.1
/-- How many octets all have. -/
def octsA (es : List En) : Nat := sumF (octA es) es.length
theorem octA_le {es : List En} (h : ∀ e ∈ es, Sm e.c) : ∀ i n, octA es i = some n → n ≤ 1000000 := by
  intro i n hn
  unfold octA at hn
  cases he : es[i]? with
  | none => rw [he] at hn; cases hn
  | some e =>
    rw [he] at hn
    injection hn with hn
    subst hn
    exact (h e (List.mem_of_getElem? he)).da
theorem sum_values {w : World} {s : SL} {es : List En} (h : ES w s es) {Bd : Nat} (hd : w.heap[Bd]? = some (.cells #[.slice s.1 s.2.1 s.2.2] 54 (0, 0))) (hle : es.length ≤ 1024) :
    Calls Try.prog 46 #[.func (.func 72) #[] #[.pointer (some ⟨Bd, 0, none⟩)], .func (.func 40) #[] #[]] w fun e w' => e = .returned (.int .i64 ((octsA es : Nat) : Int)) ∧ Below w.heap.size w w' := by
  have hl : (es.map En.p).length = es.length := List.length_map _
  have hK : ∀ A, Below w.heap.size w A → Kpt (fun _ => True) w A := fun A hb => Kpt.of_below hb
  refine sum_any 72 _ (enters_of Try.func72 (by kernel_rfl) rfl) es.length (es.map En.p) (fun _ _ => True) (fun _ => VaOwn Bd s (es.map En.p)) (octA es) w
    (fun w1 => by have := values1_seq 4 (by omega) Bd s (es.map En.p) (by rw [hl]; exact hle) (fun _ _ => True) w1; rw [hl] at this; exact this)
    (fun i A B M st hx => trivial)
    (fun i A hlt hb => ?_) (fun i A hb => ⟨upd_cell ((hK A hb).cells _ _ _ _ trivial hd) 0 _ rfl, by rw [h.sn, hl], by rw [← ptr_map]; exact (h.step hb).rd⟩) (fun i A n hlt hb hn => ?_) (octA_le fun e he => (h.en e he).2) hle
  · unfold octA
    rw [List.getElem?_eq_getElem hlt]
    exact ⟨fun _ => rfl, fun _ => trivial⟩
  · obtain ⟨e, he, hge⟩ := ES.get es (i := i) (by rw [hl]; exact hlt)
    rw [hge]
    unfold octA at hn
    rw [he] at hn
    injection hn with hn
    subst hn
    exact ⟨_, _, (h.step hb).at_ (List.mem_of_getElem? he) 11 _ rfl⟩
/-- The difference of times that an answer tells. -/
def smp (now : Int) (es : List En) : Nat → Int
  | 0 => -1
  | i + 1 => match es[i]? with | some e => if (e.st = 1 ∨ e.st = 2) ∧ e.sn = 1 then IntKind.i64.wrap (now - e.la) else smp now es i | none => smp now es i
structure AckR where
  by_ : Nat
  sa : Int
  lo : Bool
  mo : Bool
def goneL (q : Qm) (cum : Int) : List En := q.es.take (stp q cum)
def leftL (q : Qm) (cum : Int) : List En := q.es.drop (stp q cum)
def camL (q : Qm) (cum : Int) (bl : List (Int × Int)) : List En := camG bl (leftL q cum) (leftL q cum).length
def midL (q : Qm) (cum : Int) (bl : List (Int × Int)) : List En := (leftL q cum).mapIdx (comeE bl)
def lasI (q : Qm) (cum : Int) (bl : List (Int × Int)) : Nat := lastI bl (leftL q cum) (leftL q cum).length
def ackE (q : Qm) (cum : Int) (bl : List (Int × Int)) : List En := if camL q cum bl = [] then midL q cum bl else (midL q cum bl).mapIdx (missE (lasI q cum bl))
def ackR (q : Qm) (cum : Int) (bl : List (Int × Int)) (now : Int) : AckR :=
  ⟨octs (goneL q cum) [1, 2] + octsA (camL q cum bl), smp now (goneL q cum) (goneL q cum).length, if camL q cum bl = [] then false else missL (lasI q cum bl) (midL q cum bl) (midL q cum bl).length, decide (0 < stp q cum)⟩
def ackQ (q : Qm) (cum : Int) (bl : List (Int × Int)) : Qm := { q with es := ackE q cum bl }
end
section
open Go.RowKit Go.Maps

theorem res_size : (Try.prog.info? 49).map (·.size) = some 4 := by kernel_rfl
/-- A block with a result. -/
def RsB (W : World) (g : Nat) (b sa : Int) (lo mo : Bool) : Prop := W.heap[g]? = some (.cells #[.int .i64 b, .int .i64 sa, .bool lo, .bool mo] 49 (0, 0))
theorem ret_res {fn : Func} {p u : Tmp} (hr : fn.results = #[.cell p 49, .tmp u]) (tmps : Array Value) (w : World) (g : Nat) (b sa : Int) (lo mo : Bool) (hp : tmps.getD p undef = .pointer (some ⟨g, 0, none⟩)) (h : RsB w g b sa lo mo) :
    (results fn tmps).run Try.prog w = .ok (.tuple #[.agg #[.int .i64 b, .int .i64 sa, .bool lo, .bool mo], tmps.getD u undef]) w := by
  rw [results_cell_tmp hr, hp]
  have := run_loadVar_row w g _ 49 #[.int .i64 b, .int .i64 sa, .bool lo, .bool mo] (0, 0) _ h Try.underlying49 rfl res_size
  simp [asAddr, this]
theorem RsB.step {W W' : World} {g : Nat} {b sa : Int} {lo mo : Bool} (h : RsB W g b sa lo mo) (hb : Below W.heap.size W W') : RsB W' g b sa lo mo := (hb.block _ (Array.getElem?_eq_some_iff.1 h).1).trans h
theorem RsB.cells {W : World} {g : Nat} {b sa : Int} {lo mo : Bool} (h : RsB W g b sa lo mo) : W.cell? ⟨g, 0, none⟩ = some (.int .i64 b) ∧ W.cell? ⟨g, 1, none⟩ = some (.int .i64 sa) ∧ W.cell? ⟨g, 2, none⟩ = some (.bool lo) ∧ W.cell? ⟨g, 3, none⟩ = some (.bool mo) :=
  ⟨upd_cell h 0 _ rfl, upd_cell h 1 _ rfl, upd_cell h 2 _ rfl, upd_cell h 3 _ rfl⟩
def ackOut (r : AckR) (ok : Bool) : Value := .tuple #[.agg #[.int .i64 (r.by_ : Int), .int .i64 r.sa, .bool r.lo, .bool r.mo], .bool ok]
def ackNone : Value := .tuple #[.agg #[.int .i64 0, .int .i64 0, .bool false, .bool false], .bool false]
theorem RsB.fzs {W : World} {g : Nat} {b sa : Int} {lo mo : Bool} (h : RsB W g b sa lo mo) : W.frozen? ⟨g, 0, none⟩ = false ∧ W.frozen? ⟨g, 1, none⟩ = false ∧ W.frozen? ⟨g, 2, none⟩ = false ∧ W.frozen? ⟨g, 3, none⟩ = false := ⟨upd_fz h 0, upd_fz h 1, upd_fz h 2, upd_fz h 3⟩
theorem res4_at {W : World} {g : Nat} {b0 s0 : Int} {l0 m0 : Bool} (h : RsB W g b0 s0 l0 m0) (b sa : Int) (lo mo : Bool) : RsB ((((W.setCell ⟨g, 0, none⟩ (.int .i64 b)).setCell ⟨g, 1, none⟩ (.int .i64 sa)).setCell ⟨g, 2, none⟩ (.bool lo)).setCell ⟨g, 3, none⟩ (.bool mo)) g b sa lo mo :=
  heap_setCell_same _ g 3 _ _ _ (heap_setCell_same _ g 2 _ _ _ (heap_setCell_same _ g 1 _ _ _ (heap_setCell_same W g 0 _ _ _ h)))
theorem below4 {a W : World} {N g : Nat} (h : Below N a W) (hg : N ≤ g) (v0 v1 v2 v3 : Value) : Below N a ((((W.setCell ⟨g, 0, none⟩ v0).setCell ⟨g, 1, none⟩ v1).setCell ⟨g, 2, none⟩ v2).setCell ⟨g, 3, none⟩ v3) :=
  (((h.setCell hg _).setCell hg _).setCell hg _).setCell hg _
theorem Ack_nil (cum now : Int) (s : SL) (w : World) : Calls Try.prog 13 #[.pointer none, .int .u32 cum, .slice s.1 s.2.1 s.2.2, .int .i64 now] w fun e w' => e = .returned ackNone ∧ Below w.heap.size w w' := by
  have hb := keep (up (below_lay w (.cells #[.int .i64 now] 3)) (below_lay _ (.cells #[.int .i64 0, .int .i64 0, .bool false, .bool false] 49)))
  have hr := keep (show RsB ((w.alloc (.cells #[.int .i64 now] 3)).alloc (.cells #[.int .i64 0, .int .i64 0, .bool false, .bool false] 49)) (w.heap.size + 1) 0 0 false false from heap_new_at (by simp))
  obtain ⟨s1, s2, s3⟩ := s
  go_enter Try.func13, Try.ntmps13
  go_wp2_with (go_at_call 42; refine (reached_nil _ _).mono ?_; rintro e w' ⟨rfl, rfl⟩)
  exact bodyPost_ret (ret_res rfl _ _ (w.heap.size + 1) 0 0 false false rfl hr.out) rfl ⟨rfl, hb.out⟩
theorem Ack_no {w : World} {G : Gq} {q : Qm} (h : QA w G q) (cum now : Int) (s : SL) (hno : reachedB q cum = false) : Calls Try.prog 13 #[.pointer (some ⟨G.b, 0, none⟩), .int .u32 cum, .slice s.1 s.2.1 s.2.2, .int .i64 now] w fun e w' => e = .returned ackNone ∧ Below w.heap.size w w' := by
  have hb := keep (up (below_lay w (.cells #[.int .i64 now] 3)) (below_lay _ (.cells #[.int .i64 0, .int .i64 0, .bool false, .bool false] 49)))
  have hr := keep (show RsB ((w.alloc (.cells #[.int .i64 now] 3)).alloc (.cells #[.int .i64 0, .int .i64 0, .bool false, .bool false] 49)) (w.heap.size + 1) 0 0 false false from heap_new_at (by simp))
  have K := reached_any (h.step hb.out) cum
  rw [hno] at K
  replace K := keep K
  clear h hno
  obtain ⟨s1, s2, s3⟩ := s
  go_enter Try.func13, Try.ntmps13
  go_wp2_with (go_at_call 42; refine K.out.mono ?_; rintro e w' ⟨rfl, hbw⟩; replace hbw := keep hbw; obtain ⟨z0, z1, z2, z3⟩ := (hr.out.step hbw.out).cells; obtain ⟨f0, f1, f2, f3⟩ := (hr.out.step hbw.out).fzs)
  exact bodyPost_ret (ret_res rfl _ _ (w.heap.size + 1) 0 0 false false rfl (res4_at (hr.out.step hbw.out) 0 0 false false)) rfl ⟨rfl, below4 (hb.out.trans (hbw.out.mono hb.out.size)) (Nat.le_succ _) _ _ _ _⟩
end
section
open Go.RowKit Go.Maps

/-- Behind what went away: the queue with entries es; what is gone; the two results; what is deferred. -/
structure AkW (w : World) (G G1 : Gq) (nx : Int) (mg : Nat → Mg) (gone : List En) (g : SL) (rB D : Nat) (es : List En) (b sa : Int) (lo mo : Bool) (W : World) : Prop where
  qa : QA W G1 ⟨es, nx, mg⟩
  pt : Part G.O w W
  gn : ES W g gone
  rs : RsB W rB b sa lo mo
  rb : RsB W (w.heap.size + 1) 0 0 false false
  dd : W.heap[D]? = some (.deferred (some []))
section
variable {w : World} {G G1 : Gq} {nx : Int} {mg : Nat → Mg} {gone es : List En} {g : SL} {rB D : Nat} {b sa : Int} {lo mo : Bool} {W W' : World}
theorem AkW.step (h : AkW w G G1 nx mg gone g rB D es b sa lo mo W) (hb : Below W.heap.size W W') : AkW w G G1 nx mg gone g rB D es b sa lo mo W' :=
  ⟨h.qa.step hb, h.pt.trans (Part.of_below (fun _ => False) hb) fun i hi => hi.elim, h.gn.step hb, h.rs.step hb, h.rb.step hb, (hb.block _ (Array.getElem?_eq_some_iff.1 h.dd).1).trans h.dd⟩
/-- Entries of the queue were written. -/
theorem AkW.part (h : AkW w G G1 nx mg gone g rB D es b sa lo mo W) {L es' : List En} (hp : Part (fun i => ∃ e ∈ L, e.p = i) W W') (hq : QA W' G1 ⟨es', nx, mg⟩) (hL : ∀ e ∈ L, G.O e.p ∧ e.p < w.heap.size ∧ (∃ cs t fr, W.heap[e.p]? = some (.cells cs t fr)) ∧ ∀ x ∈ gone, x.p ≠ e.p) (hrB : w.heap.size ≤ rB) (hg : InF (fun i => w.heap.size ≤ i) g.1) :
    AkW w G G1 nx mg gone g rB D es' b sa lo mo W' := by
  have k := Kpt.of_part (ok := fun i => ¬ ∃ e ∈ L, e.p = i) hp fun _ h => h
  have lo_ : ∀ i, w.heap.size ≤ i → ¬ ∃ e ∈ L, e.p = i := fun i hi ⟨e, he, hh⟩ => by have := (hL e he).2.1; omega
  refine ⟨hq, h.pt.trans hp fun i ⟨e, he, hh⟩ => .inl (hh ▸ (hL e he).1), h.gn.part hp (fun a ea => lo_ _ (hg a ea)) fun x hx ⟨e, he, hh⟩ => (hL e he).2.2.2 x hx hh.symm, k.cells _ _ _ _ (lo_ _ hrB) h.rs, k.cells _ _ _ _ (lo_ _ (by omega)) h.rb, ?_⟩
  refine (hp.block _ (Array.getElem?_eq_some_iff.1 h.dd).1 fun ⟨e, he, hh⟩ => ?_).trans h.dd
  obtain ⟨cs, t, fr, hc⟩ := (hL e he).2.2.1
  rw [hh, h.dd] at hc
  cases hc
/-- The result is written. -/
theorem AkW.set (h : AkW w G G1 nx mg gone g rB D es b sa lo mo W) (hO : ∀ i, G1.O i → i < w.heap.size) (hF : ∀ i, G1.F i → i < w.heap.size) (hrB : w.heap.size + 1 < rB) (hg : InF (fun i => i ≠ rB) g.1) (hge : ∀ x ∈ gone, x.p < w.heap.size) (j : Nat) (v : Value) {b' sa' : Int} {lo' mo' : Bool} (he : (#[.int .i64 b, .int .i64 sa, .bool lo, .bool mo] : Array Value).setIfInBounds j v = #[.int .i64 b', .int .i64 sa', .bool lo', .bool mo']) :
    AkW w G G1 nx mg gone g rB D es b' sa' lo' mo' (W.setCell ⟨rB, j, none⟩ v) := by
  have hp := part_set W rB j v
  refine ⟨h.qa.apart hp (fun i hi e => by have := hO i hi; omega) (fun i hi e => by have := hF i hi; omega), h.pt.trans hp fun i hi => .inr (by omega), h.gn.part hp hg fun x hx e => by have := hge x hx; omega, ?_, set_other h.rb (by omega), ?_⟩
  · have := heap_setCell_same W rB j _ _ v h.rs
    rw [he] at this
    exact this
  · refine (hp.block _ (Array.getElem?_eq_some_iff.1 h.dd).1 fun e => ?_).trans h.dd
    have h1 := h.dd
    rw [e, show W.heap[rB]? = _ from h.rs] at h1
    cases h1
end
/-- What Ack leaves. -/
structure AckP (w : World) (G : Gq) (q : Qm) (cum : Int) (bl : List (Int × Int)) (w' : World) : Prop where
  qa : QA w' (cutG G (stp q cum)) (ackQ q cum bl)
  lt : Ltr w G w' (cutG G (stp q cum))
/-- The difference of times, entry by entry. -/
structure SmI (Wb : World) (g : SL) (now : Int) (gone : List En) (mo : Bool) (i : Nat) (A : World) : Prop where
  bl : Below Wb.heap.size Wb A
  ib : InB (Wb.heap.size + 1) g [1, 2] A
  rs : RsB A Wb.heap.size 0 (smp now gone i) false mo
theorem SmI.st {Wb : World} {g : SL} {now : Int} {gone : List En} {mo : Bool} {i : Nat} {A B : World} (h : SmI Wb g now gone mo i A) {N : Nat} (k : StN N A B) (hN : Wb.heap.size ≤ N) : SmI Wb g now gone mo i B := ⟨k.below h.bl hN, h.ib.st k, k.cells h.rs⟩
theorem smp_next {now : Int} {es : List En} {i : Nat} {e : En} (he : es[i]? = some e) : smp now es (i + 1) = if (e.st = 1 ∨ e.st = 2) ∧ e.sn = 1 then IntKind.i64.wrap (now - e.la) else smp now es i := by rw [smp, he]
end
end Go.Proofs.Ytffjdknmfmlfnaa
