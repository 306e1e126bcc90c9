/- A chunk of one octet; the document's example: awake answers true. -/
import Derived.Test.YthpcblbciidmeaaJX
namespace Go.Proofs.Ythpcblbciidmeaa
open Go.RowKit Go.Maps
set_option linter.unusedVariables false

abbrev nilK : Option Addr × Nat × Nat := (none, 0, 0)
def oneC (a s k fl d : Int) (n : Nat) : CX := ⟨0, fl, a, 0, s, k, 0, nilK, nilK, nilK, nilK, (some ⟨n, 0, none⟩, 1, 1), [], [b8 d]⟩
def PieceP (w : World) (a s k fl d : Int) (e : Ending) (w' : World) : Prop :=
  e = .returned (.agg (oneC a s k fl d (w.heap.size + 1)).cells.toArray) ∧ CV w' (oneC a s k fl d (w.heap.size + 1)) ∧ Below w.heap.size w w' ∧ w'.heap[w.heap.size + 1]? = some (.cells #[.int .u8 d] 5 (0, 0))
theorem piece_any (w : World) {a s k fl d : Int} (ha : 0 ≤ a ∧ a < 4294967296) (hs : 0 ≤ s ∧ s < 65536) (hk : 0 ≤ k ∧ k < 65536) (hf : 0 ≤ fl ∧ fl < 256) (hd : 0 ≤ d ∧ d < 256) :
    Calls Try.prog 17 #[.int .u32 a, .int .u16 s, .int .u16 k, .int .u8 fl, .int .u8 d] w (PieceP w a s k fl d) := by
  have L0 := below_lay w (.cells (oneC a s k fl d (w.heap.size + 1)).cells.toArray 34)
  have s1 : (w.alloc (.cells (oneC a s k fl d (w.heap.size + 1)).cells.toArray 34)).heap.size = w.heap.size + 1 := by simp
  have HB := BS.laid (w.alloc (.cells (oneC a s k fl d (w.heap.size + 1)).cells.toArray 34)) 5 [d] (fun n hn => by rw [List.mem_singleton.1 hn]; exact hd)
  have HN := heap_alloc_new (w.alloc (.cells (oneC a s k fl d (w.heap.size + 1)).cells.toArray 34)) (.cells #[.int .u8 d] 5)
  have L1 := below_lay (w.alloc (.cells (oneC a s k fl d (w.heap.size + 1)).cells.toArray 34)) (.cells #[.int .u8 d] 5)
  have K0 := keep ((L1.block w.heap.size (by omega)).trans (heap_alloc_new w _))
  rw [s1] at HB HN
  have HR := keep (show PieceP w a s k fl d _ _ from ⟨rfl, ⟨(show (0 : Int) ≤ 0 ∧ (0 : Int) < 256 by decide), hf, ha, (show (0 : Int) ≤ 0 ∧ (0 : Int) < 4294967296 by decide), hs, hk, (show (0 : Int) ≤ 0 ∧ (0 : Int) < 4294967296 by decide), PR.nil _, HB⟩, up L0 L1, HN⟩)
  clear ha hs hk hf hd L0 L1 HB HN s1
  dsimp only [oneC, CX.cells] at K0 HR
  go_enter Try.func17, Try.ntmps17
  go_wp2
  exact bodyPost_ret (ret_chunk rfl _ _ w.heap.size (oneC a s k fl d (w.heap.size + 1)) rfl K0.out) rfl HR.out
theorem oneC_ch (a s k d : Int) (n : Nat) : (oneC a s k 3 d n).c0 = pc a s k [b8 d] := rfl
/-- A chunk of one octet that is a message. -/
theorem Add_one {w : World} {G : Gh} {j : Jn} (h : JG w G j) {a s k d : Int} {n : Nat} (hx : CV w (oneC a s k 3 d n)) (he : addE j (pc a s k [b8 d]) = 0) :
    Calls Try.prog 10 #[.pointer (some ⟨G.b, 0, none⟩), .agg (oneC a s k 3 d n).cells.toArray] w fun e w' => e = .returned (.int .i64 0) ∧ ∃ G', JG w' G' (comes j (pm s [b8 d]) k) ∧ Later w G w' G' := by
  refine (Add_any h.ja h.good h.ends hx).mono ?_
  intro e w' hA
  obtain ⟨r, j', G', rfl, hr, hj, hl⟩ := hA.good hx h.good
  obtain ⟨rfl, _, h2⟩ := hr
  have he' : addE j (oneC a s k 3 d n).c0 = 0 := he
  have hj' := came_pc h.good.wf hx.a hx.si he' (h2 he')
  subst hj'
  refine ⟨by rw [he'], G', hj, hl⟩
/-- A join that was made in a call of its own. -/
structure JB (w0 w : World) (G : Gh) (j : Jn) : Prop where
  jg : JG w G j
  ow : ∀ i, G.O i → w0.heap.size ≤ i
  be : Below w0.heap.size w0 w
theorem JB.next {w0 w w' : World} {G G' : Gh} {j j' : Jn} (h : JB w0 w G j) (hl : Later w G w' G') (hj : JG w' G' j') : JB w0 w' G' j' :=
  ⟨hj, fun i hi => by
    rcases hl.o i hi with h1 | h1
    · exact h.ow i h1
    · exact Nat.le_trans h.be.size h1, h.be.trans (hl.part.below h.be.size h.ow)⟩
theorem JB.step {w0 w w' : World} {G : Gh} {j : Jn} (h : JB w0 w G j) (hb : Below w.heap.size w w') : JB w0 w' G j := ⟨h.jg.step hb, h.ow, up h.be hb⟩
theorem New_JB {w0 w : World} (h : Below w0.heap.size w0 w) (x : Int) : Calls Try.prog 9 #[.int .i64 x] w fun e w' => ∃ G, e = .returned (.pointer (some ⟨G.b, 0, none⟩)) ∧ JB w0 w' G (newJ x) ∧ Below w.heap.size w w' ∧ ∀ i, ¬ G.F i := by
  refine (New_any w x).mono ?_
  rintro e w' ⟨G, he, hj, hb, ho, hf⟩
  exact ⟨G, he, ⟨hj, fun i hi => Nat.le_trans h.size (ho i hi), up h hb⟩, hb, hf⟩
theorem Add_JB {w0 w : World} {G : Gh} {j : Jn} (h : JB w0 w G j) {a s k d : Int} {n : Nat} (hx : CV w (oneC a s k 3 d n)) (he : addE j (pc a s k [b8 d]) = 0) :
    Calls Try.prog 10 #[.pointer (some ⟨G.b, 0, none⟩), .agg (oneC a s k 3 d n).cells.toArray] w fun e w' => e = .returned (.int .i64 0) ∧ ∃ G', JB w0 w' G' (comes j (pm s [b8 d]) k) ∧ Later w G w' G' := by
  refine (Add_one h.jg hx he).mono ?_
  rintro e w' ⟨rfl, G', hj, hl⟩
  exact ⟨rfl, G', h.next hl hj, hl⟩
theorem Take_JB {w0 w : World} {G : Gh} {j : Jn} (h : JB w0 w G j) : Calls Try.prog 13 #[.pointer (some ⟨G.b, 0, none⟩)] w fun e w' =>
    ∃ A m c l G', e = .returned (.slice A m c) ∧ MSl w' A m c l ∧ (∀ x ∈ l, MV w' x ∧ InF G'.F x.da.1) ∧ l.map MX.msg = j.rd ∧ (∀ a, A = some a → ¬ G'.O a.block ∧ a.block < w'.heap.size) ∧ JB w0 w' G' (takeJ j) ∧ Later w G w' G' := by
  refine (Take_any h.jg).mono ?_
  rintro e w' ⟨A, m, c, l, G', he, hm, hv, hr, ho, hj, hl⟩
  exact ⟨A, m, c, l, G', he, hm, hv, hr, ho, h.next hl hj, hl⟩
end Go.Proofs.Ythpcblbciidmeaa
