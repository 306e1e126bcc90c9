/- Package xfer: what both laws of an End that sends want. -/
import Derived.Test.YtnlkdlnmffibhaaGreatXi1
namespace Go.Proofs.YtnlkdlnmffibhaaGreat
open Go.RowKit Go.Maps
set_option linter.unusedVariables false
set_option maxRecDepth 8000

/-- Of an End that has told nothing, Tell. -/
theorem S1.tell {w W : World} {b : Nat} {a mt pe : Int} {lo k mx mb j : Nat} {g : Xg} {x : Xm} (h : S1 w b a mt pe lo k mx mb j W g x) (now : Int) (hpe : 0 ≤ pe ∧ pe ≤ 4294967296) (hlim : x.q.es.length ≤ 1024) {R : Int} (hR : (WS.start mt).room 0 pe = R) (hR2 : R < 9223372036854775808) {d : Nat} (hT : Tk (bd now) x.q.es 0 R [] (takeQ x.q (bd now) R) d) :
    Calls Tryz.prog 8 #[.pointer (some ⟨b, 0, none⟩), .int .i64 now] W fun e w' => ∃ A c ys x', e = .returned (.slice A d c) ∧ Hid (OE w w' g x' ∧ Xl W g w' g ∧ x'.q = tkQ x.q (bd now) R ∧ x'.ws = WS.start mt ∧ x'.rs.wa = 3000 ∧ x'.ru = decide (0 < d) ∧ x'.ow = false ∧ x'.pe = pe) ∧ Hid (RowP W w' x.q (bd now) R A d c ys) := by
  have hb := h.b
  subst hb
  have hln : (takeQ x.q (bd now) R).2.length = d := by
    have h1 := hT.hd
    rw [hT.c, List.nil_append, List.length_map, List.length_take, List.drop_zero]
    omega
  have hfo : octs (tkQ x.q (bd now) R).es [1] = ((x.q.es.take d).map lenE).sum := (room_octs h.sq.st hT).1
  refine (xTell_calm h.oe.a h.ow h.sq.plain now h.sq.octs0 (by decide) (by rw [h.pe]; exact hpe) (p := pe) (R := R) (by rw [h.pe]; omega) (by rw [h.ws]; exact hR) hR2 (by rw [h.wa]; decide) hfo (by
    by_cases h0 : 0 < d
    · exact .inr (.inl ⟨h.ru, by rw [hln]; exact h0⟩)
    · obtain rfl : d = 0 := by omega
      exact .inr (.inr ⟨h.ru, hln, by rw [List.take_zero]; rfl⟩)) hlim).mono ?_
  rintro e w' ⟨A, n, c, ys, rfl, h3, h4⟩
  have hn : n = d := by
    have h5 := h4.out.sr.2
    have h6 := congrArg List.length h4.out.ct
    rw [List.length_map, List.length_map, hln] at h6
    omega
  subst hn
  refine ⟨A, c, ys, _, rfl, keep ⟨h.oe.up h3.out.1 h3.out.2, h3.out.2, rfl, h.ws, h.wa, ?_, h.ow, h.pe⟩, h4⟩
  show (if x.ru = false ∧ 0 < n then true else x.ru) = decide (0 < n)
  rw [h.ru]
  by_cases h0 : 0 < n
  · rw [if_pos ⟨rfl, h0⟩, decide_eq_true h0]
  · rw [if_neg fun h9 => h0 h9.2, decide_eq_false h0]
theorem wf32_i {x : Int} (h : (Lit.int .u32 x).wf = true) : 0 ≤ x ∧ x < 4294967296 := by
  simp [Lit.wf, IntKind.min, IntKind.max, IntKind.signed, IntKind.bits] at h
  omega
theorem SnQ.first {a : Int} {lo k mx mb j : Nat} {q : Qm} (h : SnQ a lo k mx mb j q) (hn : Nums q) (ha : 0 ≤ a ∧ a < 4294967296) (hl : q.es.length ≤ 1024) {i : Nat} {e : En} (he : q.es[i]? = some e) : e.c.a = (a + (i : Int)) % 4294967296 := by
  have h1 := hn i e he
  have h2 := h.nx
  unfold flr at h1
  rw [h1, h2]
  omega
theorem by_info_x : (Tryz.prog.info? 5).map (fun i => (i.zero, i.size, i.bytes)) = some (some (.int .u8 0), 1, 1) := by kernel_rfl
def bz (n : Nat) : List UInt8 := List.replicate n 0
theorem bz_bs {W : World} {g n : Nat} (h : W.heap[g]? = some (.cells (List.replicate n (Value.int .u8 0)).toArray 5 (0, 0))) : BS W (some ⟨g, 0, none⟩) n n (bz n) :=
  ⟨(List.length_replicate ..).symm, Nat.le_refl _, by
    unfold bz
    show SR W (some ⟨g, 0, none⟩) (bc (List.replicate n 0))
    rw [bc_zeros]
    simpa using SR.row h⟩
end Go.Proofs.YtnlkdlnmffibhaaGreat
