/- SendqGives, walked. -/
import Derived.Test.YtbkepkiaabeliaaQ46
import Derived.Test.YtbkepkiaabeliaaQ35
namespace Go.Proofs.Ytbkepkiaabeliaa
open Go.RowKit Go.Maps
set_option linter.unusedVariables false

def gz (fl st ss : Int) (g : Nat) : CZ := ⟨0, fl, 0, 0, st, ss, 0, (none, 0, 0), (none, 0, 0), (none, 0, 0), (none, 0, 0), (some ⟨g, 0, none⟩, 1, 1), [], [], [], [], [7]⟩
theorem gz_zv {w : World} {g : Nat} {fl st ss : Int} (h : w.heap[g]? = some (.cells #[.int .u8 7] 5 (0, 0))) (hf : 0 ≤ fl ∧ fl < 256) (hs : 0 ≤ st ∧ st < 65536) (hn : 0 ≤ ss ∧ ss < 65536) : ZV w (gz fl st ss g) :=
  ⟨(show (0 : Int) ≤ 0 ∧ (0 : Int) < 256 by decide), hf, (show (0 : Int) ≤ 0 ∧ (0 : Int) < 4294967296 by decide), (show (0 : Int) ≤ 0 ∧ (0 : Int) < 4294967296 by decide), hs, hn, (show (0 : Int) ≤ 0 ∧ (0 : Int) < 4294967296 by decide),
    ⟨rfl, Nat.le_refl _, SR.nil _ _⟩, ⟨rfl, Nat.le_refl _, SR.nil _ _⟩, ⟨rfl, Nat.le_refl _, SR.nil _ _⟩, ⟨rfl, Nat.le_refl _, SR.nil _ _⟩, fun p hp => (by cases hp), ⟨rfl, Nat.le_refl _, SR.row h⟩⟩
theorem gz_sm (fl st ss : Int) (g : Nat) : Sm (gz fl st ss g) := ⟨Nat.zero_le _, Nat.zero_le _, Nat.zero_le _, Nat.zero_le _, (show (1 : Nat) ≤ 1000000 by decide)⟩
/-- The chunks of the message, as they are made. -/
structure GvL (w0 : World) (fl st ss : Int) (j : Nat) (s : SL) (l : List CZ) (W : World) : Prop where
  bl : Below w0.heap.size w0 W
  ln : l.length = j
  row : W.ownsRow w0.heap.size 51 12 (.slice s.1 s.2.1 s.2.2) s.2.1 (flatF CZ.cells l)
  all : ∀ y ∈ l, ∃ g, y = gz fl st ss g ∧ w0.heap.size ≤ g ∧ W.heap[g]? = some (.cells #[.int .u8 7] 5 (0, 0))
theorem GvL.sn {w0 W : World} {fl st ss : Int} {j : Nat} {s : SL} {l : List CZ} (h : GvL w0 fl st ss j s l W) : s.2.1 = j := by
  have h1 := h.row.1
  rw [flatF_len CZ.len, h.ln] at h1
  omega
theorem GvL.app {w0 W W1 w5 : World} {fl st ss : Int} {j : Nat} {s : SL} {l : List CZ} (h : GvL w0 fl st ss j s l W) (hb : Below W.heap.size W W1) (hr : W1.heap[W.heap.size]? = some (.cells #[.int .u8 7] 5 (0, 0))) {A5 : Option Addr} {c5 : Nat}
    (ho : w5.ownsRow w0.heap.size 51 12 (.slice A5 (s.2.1 + 1) c5) (s.2.1 + 1) (flatF CZ.cells l ++ (gz fl st ss W.heap.size).cells)) (hg : W1.grownBy w5 (Value.slice s.1 s.2.1 s.2.2).ownBlock) : GvL w0 fl st ss (j + 1) (A5, s.2.1 + 1, c5) (l ++ [gz fl st ss W.heap.size]) w5 := by
  have hp := Part.of_grown (S := fun i => (Value.slice s.1 s.2.1 s.2.2).ownBlock = some i) hg fun k hk => hk
  have hro := own_step h.row hb
  have hk : ∀ g : Nat, W1.heap[g]? = some (.cells #[.int .u8 7] 5 (0, 0)) → w5.heap[g]? = some (.cells #[.int .u8 7] 5 (0, 0)) := fun g hg' => by
    refine (hp.block _ (Array.getElem?_eq_some_iff.1 hg').1 fun ee => ?_).trans hg'
    obtain ⟨cur, fr, hcur⟩ := own_cells hro ee
    exact cells_cells hg' hcur (by decide) rfl
  refine ⟨(up h.bl hb).trans (hp.below (Nat.le_trans h.bl.size hb.size) fun i hi => (h.row.lt i hi).1), by rw [List.length_append, h.ln]; rfl, ?_, fun y hy => ?_⟩
  · rw [flatF_append, show flatF CZ.cells [gz fl st ss W.heap.size] = (gz fl st ss W.heap.size).cells by simp [flatF]]
    exact ho
  · rcases List.mem_append.1 hy with hy | hy
    · obtain ⟨g, e1, e2, e3⟩ := h.all y hy
      exact ⟨g, e1, e2, hk g ((hb.block g (Array.getElem?_eq_some_iff.1 e3).1).trans e3)⟩
    · exact ⟨W.heap.size, List.mem_singleton.1 hy, h.bl.size, hk _ hr⟩
section
variable {w W W' : World} {b : Nat} {G G' : Gq} {q q' : Qm}
theorem Push_qs2 (h : QS w b G q W) {s : SL} {l : List CZ} (hl : ZS W s l) (hn : s.2.1 ≤ 1000000) (hsm : ∀ x ∈ l, Sm x) (hs : InF (fun i => ¬ G.O i) s.1) (hx : ∀ x ∈ l, ∀ A ∈ x.ads, InF (fun i => ¬ G.O i) A) (un tr : Int) (hu : ¬ (l = [] ∨ l.any unfitB = true)) (hf : ¬ 1024 < q.es.length + l.length) :
    Calls Try.prog 18 #[.pointer (some ⟨b, 0, none⟩), .slice s.1 s.2.1 s.2.2, .int .i64 un, .int .i64 tr] W fun e w' => e = .returned (.int .i64 0) ∧ ∃ G' new m, Hid (QS w b G' (pushQ q new m un tr) w' ∧ PushN q l m l.length new ∧ Ltr W G w' G' ∧ W.heap.size ≤ m) := by
  have hb := h.gb
  subst hb
  refine (Push_ok h.qa hl hn hsm ⟨hs, hx⟩ un tr hu hf).mono ?_
  rintro e w' ⟨rfl, m, hm, G', new, h1, h2, h3, h4, h5⟩
  exact ⟨rfl, G', new, m, keep ⟨h.ltr h1 (push_nums h.nu h3 (Nat.le_refl _) un tr) h2, h3, h2, hm⟩⟩
theorem Expire_qs (h : QS w b G q W) (now : Int) : Calls Try.prog 25 #[.pointer (some ⟨b, 0, none⟩), .int .i64 now] W fun e w' => e = .returned (.int .i64 ((exN now q.es q.mg q.es.length : Nat) : Int)) ∧ Hid (QS w b G ⟨q.es.map (gvE (exM now q.es q.mg q.es.length)), q.nx, exM now q.es q.mg q.es.length⟩ w' ∧ Part G.O W w') := by
  have hb := h.gb
  subst hb
  refine (Expire_any h.qa now).mono ?_
  rintro e w' ⟨rfl, h1, h2⟩
  refine ⟨rfl, keep ⟨h.ltr h1 (nums_of h.nu rfl ?_) h2, h2.part⟩⟩
  show (q.es.map (gvE _)).map (fun e => e.c.a) = _
  rw [List.map_map]
  refine List.map_congr_left fun e _ => ?_
  show (gvE _ e).c.a = e.c.a
  unfold gvE
  split <;> rfl
end
/-- The message is pushed. -/
theorem gv_push1 {w w0 W : World} {b : Nat} {first fl st ss u : Int} {K : Nat} {s : SL} {l : List CZ} (hq : QS w b (newG b) (newQ first) w0) (h : GvL w0 fl st ss K s l W) (hK : 0 < K) (hK2 : K ≤ 16) (hfl : 0 ≤ fl ∧ fl < 256) (hs : 0 ≤ st ∧ st < 65536) (hn : 0 ≤ ss ∧ ss < 65536) :
    Calls Try.prog 18 #[.pointer (some ⟨b, 0, none⟩), .slice s.1 s.2.1 s.2.2, .int .i64 u, .int .i64 (-1)] W fun e w' => e = .returned (.int .i64 0) ∧ ∃ G' new m, Hid (QS w b G' (pushQ (newQ first) new m u (-1)) w' ∧ new.length = K ∧ (∀ e ∈ new, e.m = m ∧ e.st = 0 ∧ e.c.fl = fl ∧ e.c.ou = st ∧ e.c.si = ss)) := by
  have hb0 : b < w0.heap.size := hq.qa.olt b rfl
  have hO : ∀ i, w0.heap.size ≤ i → ¬ (newG b).O i := fun i hi ho => by have h1 : i = b := ho; omega
  have hq2 : QS w b (newG b) (newQ first) W := ⟨hq.qa.kept (ok := fun i => i < w0.heap.size) ⟨h.bl.size, fun k cs t fr hk hc => (h.bl.block k hk).trans hc⟩ (fun i hi => hq.qa.olt i hi) (fun i hi => hi.elim), hq.nu, hq.gb, hq.lo, hq.bl.trans (h.bl.mono hq.bl.size)⟩
  have hzs : ZS W s l := ⟨LR.of_own CZ.len (by decide) h.row, fun y hy => by
    obtain ⟨g, rfl, _, hg⟩ := h.all y hy
    exact gz_zv hg hfl hs hn⟩
  refine (Push_qs2 hq2 hzs (by rw [h.sn]; omega) (fun y hy => ?_) (fun a ea => ?_) (fun y hy A hA => ?_) u (-1) ?_ (by
    show ¬ 1024 < 0 + l.length
    rw [h.ln]
    omega)).mono ?_
  · obtain ⟨g, rfl, _, _⟩ := h.all y hy
    exact gz_sm fl st ss g
  · refine hO _ (h.row.lt a.block ?_).1
    rw [ea]
    rfl
  · obtain ⟨g, rfl, hg, _⟩ := h.all y hy
    intro a ea
    simp only [CZ.ads, gz, List.map_nil, List.append_nil, List.mem_cons, List.not_mem_nil, or_false] at hA
    rcases hA with rfl | rfl | rfl | rfl | rfl
    · cases ea
    · cases ea
    · cases ea
    · cases ea
    · injection ea with ea
      rw [← ea]
      exact hO _ hg
  · rintro (h1 | h1)
    · rw [h1] at h
      have := h.ln
      simp at this
      omega
    · obtain ⟨y, hy, hu⟩ := List.any_eq_true.1 h1
      obtain ⟨g, rfl, _, _⟩ := h.all y hy
      exact absurd hu (show ¬ unfitB (gz fl st ss g) = true from by unfold unfitB gz; simp)
  · rintro e w' ⟨rfl, G', new, m, hh⟩
    obtain ⟨h1, h2, h3, h4⟩ := hh.out
    refine ⟨rfl, G', new, m, keep ⟨h1, h2.len.trans h.ln, fun e he => ?_⟩⟩
    obtain ⟨i, hi⟩ := List.getElem?_of_mem he
    have hil : i < l.length := by rw [← h2.len]; exact (List.getElem?_eq_some_iff.1 hi).1
    obtain ⟨g, hy, _, _⟩ := h.all l[i] (List.getElem_mem hil)
    obtain ⟨b1, b2, b3, b4, _⟩ := h2.all i l[i] e (List.getElem?_eq_getElem hil) hi
    rw [hy] at b1
    exact ⟨b3, b4, congrArg Ct.fl b1, congrArg Ct.ou b1, congrArg Ct.si b1⟩
/-- One piece more. -/
theorem gv_push2 {w W W2 : World} {b : Nat} {G : Gq} {q : Qm} {n : Nat} (h : QS w b G q W) (hz : ZV W2 (pz n (W.heap.size + 1))) (hb : Below W.heap.size W W2) (hn0 : 0 < n) (hn : n ≤ 1000000) (hf : q.es.length < 1024) :
    Calls Try.prog 18 #[.pointer (some ⟨b, 0, none⟩), .slice (some ⟨W2.heap.size, 0, none⟩) 1 1, .int .i64 (-1), .int .i64 (-1)] (W2.alloc (.cells (pz n (W.heap.size + 1)).cells.toArray 51)) fun e w' => e = .returned (.int .i64 0) ∧
      ∃ G' x m, Hid (QS w b G' (pushQ q [x] m (-1) (-1)) w' ∧ lenE x = n ∧ x.st = 0 ∧ x.m = m ∧ W.heap.size ≤ m) := by
  have hb5 := below_lay W2 (.cells (pz n (W.heap.size + 1)).cells.toArray 51)
  have hq5 := h.step (up hb hb5)
  have hfl : flatF CZ.cells [pz n (W.heap.size + 1)] = (pz n (W.heap.size + 1)).cells := by simp [flatF]
  have hzs := zs_row (l := [pz n (W.heap.size + 1)]) (w := W2.alloc (.cells (pz n (W.heap.size + 1)).cells.toArray 51)) (g := W2.heap.size) (by rw [hfl]; exact heap_alloc_new W2 _) (fun x hx => by
    rw [List.mem_singleton.1 hx]
    exact hz.step hb5)
  refine (Push_qs2 hq5 hzs (show (1 : Nat) ≤ 1000000 by decide) (fun x hx => ?_) (fun a ea => ?_) (fun x hx A hA => ?_) (-1) (-1) ?_ (show ¬ 1024 < q.es.length + 1 by omega)).mono ?_
  · rw [List.mem_singleton.1 hx]
    exact pz_sm hn
  · injection ea with ea
    rw [← ea]
    intro ho
    have h1 := h.qa.olt _ ho
    have h2 := hb.size
    dsimp only at h1
    omega
  · rw [List.mem_singleton.1 hx] at hA
    intro a ea ho
    have h1 := pz_ads (N := W.heap.size + 1) (Nat.le_refl _) A hA a ea
    have h2 := h.qa.olt _ ho
    omega
  · rintro (h1 | h1)
    · cases h1
    · rw [List.any_cons, unfit_pz hn0] at h1
      cases h1
  · rintro e w' ⟨rfl, G', new, m, hh⟩
    obtain ⟨x, rfl⟩ : ∃ x, new = [x] := List.length_eq_one_iff.1 hh.out.2.1.len
    obtain ⟨g1, g2, g3, g4, g5, g6, g7⟩ := hh.out.2.1.all 0 _ _ rfl rfl
    exact ⟨rfl, G', x, m, keep ⟨hh.out.1, g2, g4, g3, Nat.le_trans (up hb hb5).size hh.out.2.2.2⟩⟩
end Go.Proofs.Ytbkepkiaabeliaa
