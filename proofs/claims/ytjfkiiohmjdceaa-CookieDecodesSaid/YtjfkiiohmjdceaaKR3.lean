/- The document's Decode for layer 9: which state any octets are under a key, or why none. -/
import Derived.Test.YtjfkiiohmjdceaaKR1
namespace Go.Proofs.Ytjfkiiohmjdceaa
open Go.RowKit
set_option linter.unusedVariables false

abbrev refZ : Array Value := #[.int .i64 0, .int .i64 0, .int .i64 0, .int .i64 0, .int .i64 0, .int .i64 0, .int .i64 0, .int .i64 0, .int .i64 0, .int .i64 0, .int .i64 0]
theorem refZ_new (w : World) : RB (w.alloc (.cells refZ 33)) w.heap.size .zero := heap_alloc_new w _
theorem ret_ref_err {fn : Func} {p u : Tmp} (hr : fn.results = #[.cell p 33, .tmp u]) (tmps : Array Value) (w : World) (g : Nat) (s : CS) (hp : tmps.getD p undef = .pointer (some ⟨g, 0, none⟩)) (h : RB w g s) :
    (results fn tmps).run Try.prog w = .ok (.tuple #[.agg s.ref, tmps.getD u undef]) w := by
  rw [results_cell_tmp hr, hp]
  have := run_loadVar_row w g _ 33 s.ref (0, 0) _ h Try.underlying33 rfl Ref_size
  simp [asAddr, this]
/-- What the document's Decode answers. -/
def RefPost (w : World) (s : CS) (x : Int) (e : Ending) (w' : World) : Prop := e = .returned (.tuple #[.agg s.ref, .int .i64 x]) ∧ Below w.heap.size w w'
theorem refDecode_key (K : Option Addr) (q ck : Nat) (hq : q ≠ 16) (A : Option Addr) (n c : Nat) (w : World) :
    Calls Try.prog 6 #[.slice K q ck, .slice A n c] w (RefPost w .zero 1) := by
  have hq' : ((q : Int) != 16) = true := by simp; omega
  clear hq
  go_enter Try.func6, Try.ntmps6
  go_wp2_with fail
  refine bodyPost_ret (ret_ref_err rfl _ _ w.heap.size .zero rfl (refZ_new w)) rfl ⟨rfl, below_lay w _⟩
theorem refDecode_short (K : Option Addr) (ck : Nat) (A : Option Addr) (n c : Nat) (hn : n < 60) (w : World) :
    Calls Try.prog 6 #[.slice K 16 ck, .slice A n c] w (RefPost w .zero 2) := by
  have hn' : (n : Int) < 60 := by omega
  clear hn
  go_enter Try.func6, Try.ntmps6
  go_wp2_with fail
  refine bodyPost_ret (ret_ref_err rfl _ _ w.heap.size .zero rfl (refZ_new w)) rfl ⟨rfl, below_lay w _⟩
theorem refDecode_long (K : Option Addr) (ck : Nat) (A : Option Addr) (n c : Nat) (hn : 60 < n) (w : World) :
    Calls Try.prog 6 #[.slice K 16 ck, .slice A n c] w (RefPost w .zero 3) := by
  have hn' : ¬ (n : Int) < 60 := by omega
  have hn2 : 60 < (n : Int) := by omega
  clear hn
  go_enter Try.func6, Try.ntmps6
  go_wp2_with fail
  refine bodyPost_ret (ret_ref_err rfl _ _ w.heap.size .zero rfl (refZ_new w)) rfl ⟨rfl, below_lay w _⟩

/-- string(b[56:]). -/
theorem tail_run (w : World) (b o c : Nat) (bs : List UInt8) (h : BS w (some ⟨b, o, none⟩) 60 c bs) :
    (convert 22 9 (.slice (some ⟨b, o + 56, none⟩) 4 (c - 56))).run Try.prog w = .ok (.string ⟨(bs.drop 56).toArray⟩) w := by
  have h1 := h.drop 56 (by decide)
  rw [if_neg (by have := h.cap; omega)] at h1
  have h2 := run_bytes_str (P := Try.prog) w 22 5 Try.underlying22 Try.underlying5 _ _ (c - 56) h1.br 9 Try.underlying9
  rw [show (bs.drop 56).length = 4 by rw [List.length_drop, ← h.len]] at h2
  simpa [Addr.add_lit] using h2
set_option maxRecDepth 100000 in
set_option maxHeartbeats 1000000 in
theorem refDecode_mark (K : Option Addr) (ck : Nat) (A : Option Addr) (c : Nat) (bs : List UInt8) (w : World) (hb : BS w A 60 c bs) (hm : bs.drop 56 ≠ bol) :
    Calls Try.prog 6 #[.slice K 16 ck, .slice A 60 c] w (RefPost w .zero 3) := by
  have hc : (60 : Int) ≤ (c : Int) := by have := hb.cap; omega
  have hcn : ¬ c = 56 := by omega
  have hc56 : (56 : Int) ≤ (c : Int) := by omega
  obtain ⟨b0, o0, rfl, _⟩ := hb.place (by decide)
  have k1 := tail_run _ b0 o0 c bs (hb.step (below_lay w (.cells refZ 33)))
  obtain ⟨D, hD⟩ : ∃ D, bs.drop 56 = D := ⟨_, rfl⟩
  rw [hD] at k1 hm
  have hne : (D == [66, 79, 76, 49]) = false := by simpa [bol] using hm
  clear hb hD
  go_enter Try.func6, Try.ntmps6
  go_wp2_with fail
  refine bodyPost_ret (ret_ref_err rfl _ _ w.heap.size .zero rfl (refZ_new w)) rfl ⟨rfl, below_lay w _⟩
end Go.Proofs.Ytjfkiiohmjdceaa
