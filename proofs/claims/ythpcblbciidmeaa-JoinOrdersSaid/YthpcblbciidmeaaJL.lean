/- A run whose message is whole is taken out. -/
import Derived.Test.YthpcblbciidmeaaJK
namespace Go.Proofs.Ythpcblbciidmeaa
open Go.RowKit Go.Maps
set_option linter.unusedVariables false

theorem chunk_info9 : (Try.prog.info? 34).map (fun i => (i.zero, i.size, i.bytes)) = some (some (.agg #[.int .u8 0, .int .u8 0, .int .u32 0, .int .u32 0, .int .u16 0, .int .u16 0, .int .u32 0, .slice none 0 0, .slice none 0 0, .slice none 0 0, .slice none 0 0, .slice none 0 0]), 12, 144) := by kernel_rfl
/-- A piece's chunk, as it lies in memory that is kept. -/
structure PK (w : World) (F : Nat → Prop) (x : CX) : Prop where
  cv : CV w x
  pr : x.pr = (none, 0, 0)
  ps : x.ps = []
  da : InF F x.da.1
theorem PK.kept {S : Nat → Prop} {w w' : World} {F : Nat → Prop} {x : CX} (h : PK w F x) (hp : Part S w w') (hF : ∀ i, F i → ¬ S i) : PK w' F x := by
  refine ⟨⟨h.cv.kd, h.cv.fl, h.cv.a, h.cv.b, h.cv.ou, h.cv.si, h.cv.pp, ?_, hp.bs hF h.cv.bs h.da⟩, h.pr, h.ps, h.da⟩
  rw [h.pr, h.ps]
  exact PR.nil _
theorem filter_len {l : List Ch} (hk : KeysC l) {n : Int} : (∃ x ∈ l, x.a = n) → (l.filter fun x => decide (x.a ≠ n)).length + 1 = l.length := by
  induction l with
  | nil => rintro ⟨_, h, _⟩; cases h
  | cons y r ih =>
    obtain ⟨h1, h2⟩ := List.pairwise_cons.1 hk
    rintro ⟨x, hx, e⟩
    by_cases hy : y.a = n
    · rw [List.filter_cons_of_neg (by simpa using hy), List.filter_eq_self.2 fun z hz => by simpa using fun e' => h1 z hz (hy.trans e'.symm)]
      rfl
    · rw [List.filter_cons_of_pos (by simpa using hy)]
      rcases List.mem_cons.1 hx with rfl | hx
      · exact absurd e hy
      · simp only [List.length_cons]
        have := ih h2 ⟨x, hx, e⟩
        omega
theorem without_next {s l : List Ch} {t : Nat} {x : Ch} (hx : s[t]? = some x) : (without (s.take t) l).filter (fun y => decide (y.a ≠ x.a)) = without (s.take (t + 1)) l := by
  unfold without
  rw [List.filter_filter, List.take_add_one, hx]
  refine List.filter_congr fun y _ => ?_
  rw [List.any_append]
  by_cases e : x.a = y.a
  · simp [e]
  · have e' : ¬ y.a = x.a := fun h => e h.symm
    simp [e, e']
theorem without_zero (l : List Ch) : without ([] : List Ch) l = l := by
  unfold without
  rw [List.filter_eq_self]
  intro x _
  rfl
/-- Between two rounds. -/
structure WR (w : World) (G : Gh) (j : Jn) (o : Int) (s : List Ch) (t : Nat) (A : Option Addr) (c : Nat) (Gt : Gh) (lst : List CX) (wr : World) : Prop where
  ja : JA wr Gt { j with ch := without (s.take t) j.ch } o
  la : Later w G wr Gt
  oo : Gt.O = G.O
  ff : Gt.F = G.F
  fr : Gt.far = G.far
  row : wr.ownsRow (w.heap.size + 1) 34 12 (.slice A t c) t (flatF CX.cells lst)
  vs : ∀ x ∈ lst, PK wr G.F x
  is : lst.map CX.ch = s.take t
  r : MB wr w.heap.size MX.zero
theorem WR.next {w : World} {G : Gh} {j : Jn} {o : Int} {s : List Ch} {t : Nat} {A : Option Addr} {c : Nat} {Gt : Gh} {lst : List CX} {wr : World} (h : WR w G j o s t A c Gt lst wr) (hk : KeysC j.ch) (hnd : s.Pairwise fun x y => x.a ≠ y.a) (hs : ∀ x ∈ s, x ∈ j.ch) {x : Ch} (hx : s[t]? = some x) :
    ∃ p, Gt.pb x.a = some p ∧ (Gt.pc x.a).ch = x ∧ At12 wr p 0 (Gt.pc x.a) ∧ PK wr G.F (Gt.pc x.a) ∧ p < wr.heap.size := by
  have hm : x ∈ without (s.take t) j.ch := mem_without.2 ⟨hs x (List.mem_of_getElem? hx), fun y hy e => by
    obtain ⟨i, hi⟩ := List.mem_iff_getElem?.1 hy
    have hil := (List.getElem?_eq_some_iff.1 hi).1
    rw [List.length_take] at hil
    rw [List.getElem?_take_of_lt (by omega)] at hi
    have h1 := List.pairwise_iff_getElem.1 hnd i t (List.getElem?_eq_some_iff.1 hi).1 (List.getElem?_eq_some_iff.1 hx).1 (by omega)
    rw [(List.getElem?_eq_some_iff.1 hi).2, (List.getElem?_eq_some_iff.1 hx).2] at h1
    exact h1 e⟩
  obtain ⟨p, hp, hc⟩ := h.ja.pa.has x hm
  obtain ⟨_, hP, _⟩ := h.ja.pa.op _ _ hp
  refine ⟨p, hp, hc, hP.at_.1, ⟨hP.cv, hP.pr, hP.ps, by rw [← h.ff]; exact hP.da⟩, (Array.getElem?_eq_some_iff.1 hP.blk).1⟩
/-- One more is appended. -/
theorem WR.app {w : World} {G : Gh} {j : Jn} {o : Int} {s : List Ch} {t : Nat} {A : Option Addr} {c : Nat} {Gt : Gh} {lst : List CX} {wr : World} (h : WR w G j o s t A c Gt lst wr) (hO : ∀ i, G.O i → i < w.heap.size) (hF : ∀ i, G.F i → i < w.heap.size)
    {tmp : Array Value} {ty : TypeId} {w3 : World} (hg : (wr.alloc (.cells tmp ty)).grownBy w3 (Value.slice A t c).ownBlock) :
    JA w3 Gt { j with ch := without (s.take t) j.ch } o ∧ Part (fun i => w.heap.size < i) wr w3 ∧ (∀ x, PK wr G.F x → PK w3 G.F x) ∧ MB w3 w.heap.size MX.zero := by
  have hrow : ∀ g, (Value.slice A t c).ownBlock = some g → w.heap.size < g := fun g e => (h.row.lt g e).1
  have hp : Part (fun i => w.heap.size < i) wr w3 := (Part.of_below (fun i => w.heap.size < i) (below_lay wr (.cells tmp ty))).trans (Part.of_grown (S := fun i => w.heap.size < i) hg hrow) fun i hi => .inl hi
  refine ⟨h.ja.apart hp (fun i hi hc => ?_) (fun i hi hc => ?_), hp, fun x hx => hx.kept hp fun i hi hc => ?_, (hp.block _ h.r.lt (Nat.lt_irrefl _)).trans h.r⟩
  · rw [h.oo] at hi
    have := hO i hi
    omega
  · rw [h.ff] at hi
    have := hF i hi
    omega
  · have := hF i hi
    omega
/-- .. and taken out. -/
theorem WR.del {w : World} {G : Gh} {j : Jn} {o : Int} {s : List Ch} {t : Nat} {A : Option Addr} {c : Nat} {Gt : Gh} {lst : List CX} {wr : World} (h : WR w G j o s t A c Gt lst wr) (hk : KeysC j.ch) (hO : ∀ i, G.O i → i < w.heap.size) (hF : ∀ i, G.F i → i < w.heap.size) (hd : ∀ i, G.O i → ¬ G.F i)
    {x : Ch} (hx : s[t]? = some x) {p : Nat} (hp : Gt.pb x.a = some p) (hpc : (Gt.pc x.a).ch = x) (hpk : PK wr G.F (Gt.pc x.a)) {tmp : Array Value} {ty : TypeId} {w3 w4 : World} (hg : (wr.alloc (.cells tmp ty)).grownBy w3 (Value.slice A t c).ownBlock) {A' : Option Addr} {c' : Nat}
    (ho : w3.ownsRow (w.heap.size + 1) 34 12 (.slice A' (t + 1) c') (t + 1) (flatF CX.cells lst ++ (Gt.pc x.a).cells))
    (hm : MapV w4 26 .u32 Gt.k ((without (s.take t) j.ch).length - if (pgV Gt.pb x.a).isSome = true then 1 else 0) (delV (pgV Gt.pb) x.a)) (hg4 : w3.grownBy w4 (some Gt.k)) :
    WR w G j o s (t + 1) A' c' { Gt with pb := fun y => if y = x.a then none else Gt.pb y } (lst ++ [Gt.pc x.a]) w4 := by
  obtain ⟨J3, P3, K3, R3⟩ := h.app hO hF hg
  have hsome : (pgV Gt.pb x.a).isSome = true := by rw [pgV_some hp]; rfl
  have hkt : KeysC (without (s.take t) j.ch) := by unfold without; exact hk.filter _
  have hxm : x ∈ without (s.take t) j.ch := by
    have := (h.ja.pa.op _ _ hp).2.2.1
    rw [hpc] at this
    exact this
  have hD := J3.delPiece (n := x.a) (l := without (s.take (t + 1)) j.ch) (fun y => by
      rw [← without_next hx]
      show y ∈ (without (s.take t) j.ch).filter _ ↔ y ∈ without (s.take t) j.ch ∧ y.a ≠ x.a
      rw [List.mem_filter]
      simp) (by
      show (without (s.take (t + 1)) j.ch).length = (without (s.take t) j.ch).length - _
      rw [← without_next hx, hsome, if_pos rfl]
      have := filter_len hkt (n := x.a) ⟨x, hxm, rfl⟩
      omega) hm hg4
  have hko : G.O Gt.k := by rw [← h.oo]; exact h.ja.pa.ok
  have hkl := hO _ hko
  have hFk : ∀ i, G.F i → ¬ i = Gt.k := fun i hi e => hd _ hko (by rw [← e]; exact hi)
  refine ⟨hD.1, ?_, h.oo, h.ff, h.fr, ?_, fun y hy => ?_, ?_, (hD.2.block _ R3.lt (fun e => by omega)).trans R3⟩
  · have hl := h.la
    refine ⟨hl.b, hl.k, hl.sb, hl.n, hl.wm, ?_, fun i hi => hl.o i hi, fun i hi => hl.f i hi⟩
    exact (hl.part.trans (S' := fun i => w.heap.size < i) P3 fun i hi => .inr (Nat.le_of_lt hi)).trans hD.2 fun i hi => .inl (by rw [hi]; exact hko)
  · rw [flatF_append, show flatF CX.cells [Gt.pc x.a] = (Gt.pc x.a).cells by simp [flatF]]
    exact hD.2.own ho fun g e e' => by
      have := (ho.lt g e).1
      omega
  · refine PK.kept ?_ hD.2 hFk
    rcases List.mem_append.1 hy with hy | hy
    · exact K3 y (h.vs y hy)
    · rw [List.mem_singleton.1 hy]
      exact K3 _ hpk
  · rw [List.map_append, h.is, List.take_add_one, hx]
    show s.take t ++ [(Gt.pc x.a).ch] = _
    rw [hpc]
    rfl
end Go.Proofs.Ythpcblbciidmeaa
