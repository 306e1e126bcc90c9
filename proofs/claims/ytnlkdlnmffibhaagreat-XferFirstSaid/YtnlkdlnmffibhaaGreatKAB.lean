/- KAB of the stage: texts Q2, Q3, Ser1, Frame, Q4, joined. -/
import Derived.Test.YtnlkdlnmffibhaaGreatKAA
import Derived.WalkSpells
import Derived.KernelRfl
import Derived.WalkKit
import Derived.Test.YtnlkdlnmffibhaaGreatProg
import Derived.Test.YtnlkdlnmffibhaaGreatRows
import Derived.ProofKit
import Derived.OpenShut
import Derived.ShutString
import Derived.ChangeOld
import Derived.SizedLaws
import Derived.Deep.QuietTactic
import Derived.BigQuiet
set_option linter.unusedSimpArgs false
set_option linter.unusedVariables false
set_option maxRecDepth 8000
namespace Go.Proofs.YtnlkdlnmffibhaaGreat
section
open Go.RowKit Go.Maps
theorem below_drewN_sq {B : Nat} {a w : World} (h : Below B a w) (k : Nat) : Below B a (w.drewN k) := ⟨h.os, h.tape, h.output, h.size, h.block⟩
structure Kpt (ok : Nat → Prop) (A B : World) : Prop where
  size : A.heap.size ≤ B.heap.size
  cells : ∀ k cs t fr, ok k → A.heap[k]? = some (.cells cs t fr) → B.heap[k]? = some (.cells cs t fr)
theorem Kpt.of_part {S ok : Nat → Prop} {A B : World} (h : Part S A B) (ho : ∀ k, ok k → ¬ S k) : Kpt ok A B := ⟨h.size, fun k cs t fr hk hc => (h.block k (Array.getElem?_eq_some_iff.1 hc).1 (ho k hk)).trans hc⟩
theorem Kpt.of_st {ok : Nat → Prop} {N : Nat} {A B : World} (h : StN N A B) : Kpt ok A B := ⟨h.size, fun k cs t fr _ hc => h.cells hc⟩
theorem Kpt.of_below {ok : Nat → Prop} {A B : World} (h : Below A.heap.size A B) : Kpt ok A B := ⟨h.size, fun k cs t fr _ hc => (h.block k (Array.getElem?_eq_some_iff.1 hc).1).trans hc⟩
theorem Kpt.trans {ok : Nat → Prop} {A B C : World} (h : Kpt ok A B) (g : Kpt ok B C) : Kpt ok A C := ⟨Nat.le_trans h.size g.size, fun k cs t fr ho hc => g.cells k cs t fr ho (h.cells k cs t fr ho hc)⟩
def InF (F : Nat → Prop) (A : Option Addr) : Prop := ∀ a, A = some a → F a.block
theorem cell_row {w : World} {b o : Nat} {v : Value} (h : w.cell? ⟨b, o, none⟩ = some v) : ∃ cs t fr, w.heap[b]? = some (.cells cs t fr) := by
  unfold World.cell? at h
  cases ho : w.heap[b]? with
  | none => simp [ho] at h
  | some x => cases x <;> simp_all
theorem Kpt.cell {ok : Nat → Prop} {A B : World} (h : Kpt ok A B) {b o : Nat} {v : Value} (hb : ok b) (hc : A.cell? ⟨b, o, none⟩ = some v) : B.cell? ⟨b, o, none⟩ = some v := by
  obtain ⟨cs, t, fr, hr⟩ := cell_row hc
  exact (World.cell?_of_block (w := A) (a := ⟨b, o, none⟩) ((h.cells _ _ _ _ hb hr).trans hr.symm)).trans hc
theorem Kpt.sr {ok : Nat → Prop} {A B : World} (h : Kpt ok A B) {p : Option Addr} {xs : List Value} (hp : InF ok p) (hs : SR A p xs) : SR B p xs := fun hx => by
  obtain ⟨b, o, e, hlt, hc⟩ := hs hx
  exact ⟨b, o, e, Nat.lt_of_lt_of_le hlt h.size, fun j u hu => h.cell (hp _ e) (hc j u hu)⟩
theorem Kpt.bs {ok : Nat → Prop} {A B : World} (h : Kpt ok A B) {p : Option Addr} {n c : Nat} {bs : List UInt8} (hp : InF ok p) (hs : BS A p n c bs) : BS B p n c bs := ⟨hs.1, hs.2.1, h.sr hp hs.2.2⟩
theorem Kpt.own {ok : Nat → Prop} {A B : World} (h : Kpt ok A B) {base : Nat} {e : TypeId} {size n : Nat} {v : Value} {xs : List Value} (ho : A.ownsRow base e size v n xs) (hv : ∀ g, v.ownBlock = some g → ok g) : B.ownsRow base e size v n xs := by
  refine ⟨ho.1, ?_⟩
  rcases ho.2 with hn | ⟨g, cap, cur, rfl, hb, hgg, rest⟩
  · exact .inl hn
  · exact .inr ⟨g, cap, cur, rfl, hb, h.cells _ _ _ _ (hv g (by simp [Value.ownBlock])) hgg, rest⟩
abbrev SL := Option Addr × Nat × Nat
def LR {α : Type} (f : α → List Value) (w : World) (s : SL) (l : List α) : Prop := s.2.1 = l.length ∧ s.2.1 ≤ s.2.2 ∧ SR w s.1 (flatF f l)
theorem LR.kept {α : Type} {f : α → List Value} {ok : Nat → Prop} {A B : World} {s : SL} {l : List α} (h : LR f A s l) (k : Kpt ok A B) (hp : InF ok s.1) : LR f B s l := ⟨h.1, h.2.1, k.sr hp h.2.2⟩
def blC (x : Int × Int) : List Value := [.int .u16 x.1, .int .u16 x.2]
def duC (x : Int) : List Value := [.int .u32 x]
theorem blC_len (x : Int × Int) : (blC x).length = 2 := rfl
theorem duC_len (x : Int) : (duC x).length = 1 := rfl
theorem blC_one (x : Int × Int) : ∀ u ∈ blC x, u.oneCell' = true := by
  intro u hu
  simp only [blC, List.mem_cons, List.not_mem_nil, or_false] at hu
  rcases hu with rfl | rfl <;> rfl
theorem duC_one (x : Int) : ∀ u ∈ duC x, u.oneCell' = true := by
  intro u hu
  simp only [duC, List.mem_cons, List.not_mem_nil, or_false] at hu
  subst hu
  rfl
abbrev PZ := Int × Option Addr × Nat × Nat × List UInt8
def PZ.cells (x : PZ) : List Value := [.int .u16 x.1, .slice x.2.1 x.2.2.1 x.2.2.2.1]
theorem PZ.len (x : PZ) : (PZ.cells x).length = 2 := rfl
theorem PZ.one (x : PZ) : ∀ u ∈ PZ.cells x, u.oneCell' = true := by
  intro u hu
  simp only [PZ.cells, List.mem_cons, List.not_mem_nil, or_false] at hu
  rcases hu with rfl | rfl <;> rfl
def PZ.ct (x : PZ) : Int × List UInt8 := (x.1, x.2.2.2.2)
def PV5 (w : World) (x : PZ) : Prop := BS w x.2.1 x.2.2.1 x.2.2.2.1 x.2.2.2.2 ∧ x.2.2.1 ≤ 140737488355328
structure CZ where
  kd : Int
  fl : Int
  a : Int
  b : Int
  ou : Int
  si : Int
  pp : Int
  bl : SL
  du : SL
  sk : SL
  pr : SL
  da : SL
  bls : List (Int × Int)
  dus : List Int
  sks : List (Int × Int)
  prs : List PZ
  bs : List UInt8
def CZ.cells (x : CZ) : List Value := [.int .u8 x.kd, .int .u8 x.fl, .int .u32 x.a, .int .u32 x.b, .int .u16 x.ou, .int .u16 x.si, .int .u32 x.pp, .slice x.bl.1 x.bl.2.1 x.bl.2.2, .slice x.du.1 x.du.2.1 x.du.2.2, .slice x.sk.1 x.sk.2.1 x.sk.2.2, .slice x.pr.1 x.pr.2.1 x.pr.2.2, .slice x.da.1 x.da.2.1 x.da.2.2]
theorem CZ.len (x : CZ) : x.cells.length = 12 := rfl
theorem CZ.one (x : CZ) : ∀ u ∈ x.cells, u.oneCell' = true := by
  intro u hu
  simp only [CZ.cells, List.mem_cons, List.not_mem_nil, or_false] at hu
  rcases hu with rfl | rfl | rfl | rfl | rfl | rfl | rfl | rfl | rfl | rfl | rfl | rfl <;> rfl
structure Ct where
  kd : Int
  fl : Int
  a : Int
  b : Int
  ou : Int
  si : Int
  pp : Int
  bls : List (Int × Int)
  dus : List Int
  sks : List (Int × Int)
  prs : List (Int × List UInt8)
  bs : List UInt8
def CZ.ct (x : CZ) : Ct := ⟨x.kd, x.fl, x.a, x.b, x.ou, x.si, x.pp, x.bls, x.dus, x.sks, x.prs.map PZ.ct, x.bs⟩
def CZ.ads (x : CZ) : List (Option Addr) := [x.bl.1, x.du.1, x.sk.1, x.pr.1, x.da.1] ++ x.prs.map fun p => p.2.1
structure ZV (w : World) (x : CZ) : Prop where
  kd : 0 ≤ x.kd ∧ x.kd < 256
  fl : 0 ≤ x.fl ∧ x.fl < 256
  a : 0 ≤ x.a ∧ x.a < 4294967296
  b : 0 ≤ x.b ∧ x.b < 4294967296
  ou : 0 ≤ x.ou ∧ x.ou < 65536
  si : 0 ≤ x.si ∧ x.si < 65536
  pp : 0 ≤ x.pp ∧ x.pp < 4294967296
  bl : LR blC w x.bl x.bls
  du : LR duC w x.du x.dus
  sk : LR blC w x.sk x.sks
  pr : LR PZ.cells w x.pr x.prs
  ps : ∀ p ∈ x.prs, PV5 w p
  da : BS w x.da.1 x.da.2.1 x.da.2.2 x.bs
structure Sm (x : CZ) : Prop where
  bl : x.bl.2.1 ≤ 1000000
  du : x.du.2.1 ≤ 1000000
  sk : x.sk.2.1 ≤ 1000000
  pr : x.pr.2.1 ≤ 1000000
  da : x.da.2.1 ≤ 1000000
theorem ZV.kept {ok : Nat → Prop} {A B : World} {x : CZ} (h : ZV A x) (k : Kpt ok A B) (hp : ∀ p ∈ x.ads, InF ok p) : ZV B x := by
  have h1 : ∀ p, p ∈ x.prs → InF ok p.2.1 := fun p hp' => hp _ (by simp only [CZ.ads, List.mem_append, List.mem_map]; exact .inr ⟨p, hp', rfl⟩)
  exact ⟨h.kd, h.fl, h.a, h.b, h.ou, h.si, h.pp, h.bl.kept k (hp _ (by simp [CZ.ads])), h.du.kept k (hp _ (by simp [CZ.ads])), h.sk.kept k (hp _ (by simp [CZ.ads])), h.pr.kept k (hp _ (by simp [CZ.ads])),
    fun p hp' => ⟨k.bs (h1 p hp') (h.ps p hp').1, (h.ps p hp').2⟩, k.bs (hp _ (by simp [CZ.ads])) h.da⟩
theorem InF.all (A : Option Addr) : InF (fun _ => True) A := fun _ _ => trivial
theorem ZV.step {A B : World} {x : CZ} (h : ZV A x) (hb : Below A.heap.size A B) : ZV B x := h.kept (ok := fun _ => True) (Kpt.of_below hb) fun _ _ => InF.all _
theorem ZV.st {A B : World} {N : Nat} {x : CZ} (h : ZV A x) (hb : StN N A B) : ZV B x := h.kept (ok := fun _ => True) (Kpt.of_st hb) fun _ _ => InF.all _
def ZS (w : World) (s : SL) (l : List CZ) : Prop := LR CZ.cells w s l ∧ ∀ x ∈ l, ZV w x
theorem ZS.step {A B : World} {s : SL} {l : List CZ} (h : ZS A s l) (hb : Below A.heap.size A B) : ZS B s l := ⟨h.1.kept (ok := fun _ => True) (Kpt.of_below hb) (InF.all _), fun x hx => (h.2 x hx).step hb⟩
def Z12 (w : World) (b o : Nat) (x : CZ) : Prop :=
  w.cell? ⟨b, o, none⟩ = some (.int .u8 x.kd) ∧ w.cell? ⟨b, o + 1, none⟩ = some (.int .u8 x.fl) ∧ w.cell? ⟨b, o + 2, none⟩ = some (.int .u32 x.a) ∧ w.cell? ⟨b, o + 3, none⟩ = some (.int .u32 x.b) ∧ w.cell? ⟨b, o + 4, none⟩ = some (.int .u16 x.ou) ∧ w.cell? ⟨b, o + 5, none⟩ = some (.int .u16 x.si) ∧ w.cell? ⟨b, o + 6, none⟩ = some (.int .u32 x.pp) ∧
  w.cell? ⟨b, o + 7, none⟩ = some (.slice x.bl.1 x.bl.2.1 x.bl.2.2) ∧ w.cell? ⟨b, o + 8, none⟩ = some (.slice x.du.1 x.du.2.1 x.du.2.2) ∧ w.cell? ⟨b, o + 9, none⟩ = some (.slice x.sk.1 x.sk.2.1 x.sk.2.2) ∧ w.cell? ⟨b, o + 10, none⟩ = some (.slice x.pr.1 x.pr.2.1 x.pr.2.2) ∧ w.cell? ⟨b, o + 11, none⟩ = some (.slice x.da.1 x.da.2.1 x.da.2.2)
theorem Z12.of {w : World} {b o : Nat} {x : CZ} (h : ∀ i v, x.cells[i]? = some v → w.cell? ⟨b, o + i, none⟩ = some v) : Z12 w b o x :=
  ⟨h 0 _ rfl, h 1 _ rfl, h 2 _ rfl, h 3 _ rfl, h 4 _ rfl, h 5 _ rfl, h 6 _ rfl, h 7 _ rfl, h 8 _ rfl, h 9 _ rfl, h 10 _ rfl, h 11 _ rfl⟩
theorem ZS.at_ {w : World} {s : SL} {l : List CZ} (h : ZS w s l) {j : Nat} (hj : j < s.2.1) : ∃ b o x, s.1 = some ⟨b, o, none⟩ ∧ b < w.heap.size ∧ Z12 w b (o + j * 12) x ∧ l[j]? = some x ∧ ZV w x := by
  obtain ⟨⟨h1, _, h3⟩, h4⟩ := h
  have hl : j < l.length := by omega
  have hg := flatF_get (f := CZ.cells) CZ.len l j l[j] (List.getElem?_eq_getElem hl)
  obtain ⟨b, o, e, hlt, hc⟩ := h3 (by intro h0; have := flatF_len (f := CZ.cells) CZ.len l; rw [h0] at this; simp at this; omega)
  refine ⟨b, o, l[j], e, hlt, Z12.of fun i v hv => ?_, List.getElem?_eq_getElem hl, h4 _ (List.getElem_mem _)⟩
  have hi : i < 12 := by
    rcases Nat.lt_or_ge i 12 with h0 | h0
    · exact h0
    · rw [List.getElem?_eq_none (by rw [CZ.len]; exact h0)] at hv; cases hv
  rw [Nat.add_assoc]
  exact hc _ _ ((hg i hi).trans hv)
theorem LR.at_ {α : Type} {f : α → List Value} {K : Nat} (hf : ∀ x, (f x).length = K) (hK : 0 < K) {w : World} {s : SL} {l : List α} (h : LR f w s l) {j : Nat} (hj : j < s.2.1) :
    ∃ b o x, s.1 = some ⟨b, o, none⟩ ∧ b < w.heap.size ∧ l[j]? = some x ∧ ∀ i v, (f x)[i]? = some v → w.cell? ⟨b, o + j * K + i, none⟩ = some v := by
  obtain ⟨h1, _, h3⟩ := h
  have hl : j < l.length := by omega
  have hg := flatF_get (f := f) hf l j l[j] (List.getElem?_eq_getElem hl)
  obtain ⟨b, o, e, hlt, hc⟩ := h3 (by intro h0; have := flatF_len (f := f) hf l; rw [h0, List.length_nil] at this; have hp : 0 < l.length * K := Nat.mul_pos (by omega) hK; omega)
  refine ⟨b, o, l[j], e, hlt, List.getElem?_eq_getElem hl, fun i v hv => ?_⟩
  have hi : i < K := by
    rcases Nat.lt_or_ge i K with h0 | h0
    · exact h0
    · rw [List.getElem?_eq_none (by rw [hf]; exact h0)] at hv; cases hv
  rw [Nat.add_assoc]
  exact hc _ _ ((hg i hi).trans hv)
theorem LR.of_own {α : Type} {f : α → List Value} {K : Nat} (hf : ∀ x, (f x).length = K) (hK : 0 < K) {w : World} {base n c : Nat} {A : Option Addr} {l : List α} {e : TypeId} (h : w.ownsRow base e K (.slice A n c) n (flatF f l)) : LR f w (A, n, c) l := by
  have hlen := h.1
  rw [flatF_len hf] at hlen
  have hn : n = l.length := (Nat.mul_right_cancel hK hlen).symm
  rcases h.2 with ⟨h0, h1⟩ | ⟨g, cap, cur, hv', _, hg, hnc, _, _, ht⟩
  · injection h0 with a1 a2 a3
    subst a1 a2 a3
    refine ⟨hn, Nat.le_refl _, fun hx => absurd (List.eq_nil_of_length_eq_zero ?_) hx⟩
    rw [flatF_len hf, ← hn, Nat.zero_mul]
  · injection hv' with a1 a2 a3
    subst a1 a3
    refine ⟨hn, hnc, ?_⟩
    have := (SR.row hg).take (n * K)
    rw [ht] at this
    exact this
end
section
open Go.RowKit Go.Maps
structure En where
  p : Nat
  c : CZ
  m : Nat
  st : Int
  sn : Int
  la : Int
  ms : Int
def En.cells (e : En) : List Value := e.c.cells ++ [.pointer (some ⟨e.m, 0, none⟩), .int .i64 e.st, .int .i64 e.sn, .int .i64 e.la, .int .i64 e.ms]
structure Mg where
  un : Int
  tr : Int
  gv : Bool
def En.ptr (e : En) : Value := .pointer (some ⟨e.p, 0, none⟩)
structure Gq where
  b : Nat
  s : SL
  O : Nat → Prop
  F : Nat → Prop
structure Qm where
  es : List En
  nx : Int
  mg : Nat → Mg
structure EnAt (w : World) (F : Nat → Prop) (e : En) : Prop where
  blk : w.heap[e.p]? = some (.cells e.cells.toArray 96 (0, 0))
  zv : ZV w e.c
  sm : Sm e.c
  inf : ∀ A ∈ e.c.ads, InF F A
def MgAt (w : World) (m : Nat) (g : Mg) : Prop := w.heap[m]? = some (.cells #[.int .i64 g.un, .int .i64 g.tr, .bool g.gv] 93 (0, 0))
structure QA (w : World) (G : Gq) (q : Qm) : Prop where
  blk : w.heap[G.b]? = some (.cells #[.slice G.s.1 G.s.2.1 G.s.2.2, .int .u32 q.nx] 104 (0, 0))
  ob : G.O G.b
  row : w.ownsRow 0 91 1 (.slice G.s.1 G.s.2.1 G.s.2.2) G.s.2.1 (q.es.map En.ptr)
  ov : ∀ g, (Value.slice G.s.1 G.s.2.1 G.s.2.2).ownBlock = some g → G.O g
  en : ∀ e ∈ q.es, EnAt w G.F e ∧ G.O e.p ∧ MgAt w e.m (q.mg e.m) ∧ G.O e.m
  nd : (q.es.map En.p).Nodup
  nx : 0 ≤ q.nx ∧ q.nx < 4294967296
  le : q.es.length ≤ 1024
  dis : ∀ i, G.O i → ¬ G.F i
  olt : ∀ i, G.O i → i < w.heap.size
  flt : ∀ i, G.F i → i < w.heap.size
theorem QA.n {w : World} {G : Gq} {q : Qm} (h : QA w G q) : G.s.2.1 = q.es.length := by
  have := h.row.1
  rw [List.length_map] at this
  omega
theorem QA.sr {w : World} {G : Gq} {q : Qm} (h : QA w G q) : G.s.2.1 ≤ G.s.2.2 ∧ SR w G.s.1 (q.es.map En.ptr) := by
  obtain ⟨A, c, e, _, hc, hs⟩ := own_shape h.row
  injection e with e1 _ e3
  subst e1
  exact ⟨by rw [e3]; exact hc, hs⟩
structure Ltr (w : World) (G : Gq) (w' : World) (G' : Gq) : Prop where
  b : G'.b = G.b
  part : Part G.O w w'
  o : ∀ i, G'.O i → G.O i ∨ w.heap.size ≤ i
  f : ∀ i, G'.F i → G.F i ∨ w.heap.size ≤ i
theorem Ltr.trans {a b c : World} {G H K : Gq} (h : Ltr a G b H) (g : Ltr b H c K) : Ltr a G c K :=
  ⟨g.b.trans h.b, h.part.trans g.part h.o, fun i hi => by
    rcases g.o i hi with h1 | h1
    · exact h.o i h1
    · exact .inr (Nat.le_trans h.part.size h1), fun i hi => by
    rcases g.f i hi with h1 | h1
    · exact h.f i h1
    · exact .inr (Nat.le_trans h.part.size h1)⟩
theorem EnAt.kept {ok : Nat → Prop} {F : Nat → Prop} {A B : World} {e : En} (h : EnAt A F e) (k : Kpt ok A B) (hp : ok e.p) (hF : ∀ i, F i → ok i) : EnAt B F e :=
  ⟨k.cells _ _ _ _ hp h.blk, h.zv.kept k fun p hp' a ea => hF _ (h.inf p hp' a ea), h.sm, h.inf⟩
theorem QA.kept {ok : Nat → Prop} {A B : World} {G : Gq} {q : Qm} (h : QA A G q) (k : Kpt ok A B) (hO : ∀ i, G.O i → ok i) (hF : ∀ i, G.F i → ok i) : QA B G q :=
  ⟨k.cells _ _ _ _ (hO _ h.ob) h.blk, h.ob, k.own h.row fun g e => hO _ (h.ov g e), h.ov, fun e he => by
    obtain ⟨h1, h2, h3, h4⟩ := h.en e he
    exact ⟨h1.kept k (hO _ h2) hF, h2, k.cells _ _ _ _ (hO _ h4) h3, h4⟩, h.nd, h.nx, h.le, h.dis, fun i hi => Nat.lt_of_lt_of_le (h.olt i hi) k.size, fun i hi => Nat.lt_of_lt_of_le (h.flt i hi) k.size⟩
theorem QA.step {A B : World} {G : Gq} {q : Qm} (h : QA A G q) (hb : Below A.heap.size A B) : QA B G q := h.kept (ok := fun _ => True) (Kpt.of_below hb) (fun _ _ => trivial) (fun _ _ => trivial)
theorem QA.st {A B : World} {N : Nat} {G : Gq} {q : Qm} (h : QA A G q) (hb : StN N A B) : QA B G q := h.kept (ok := fun _ => True) (Kpt.of_st hb) (fun _ _ => trivial) (fun _ _ => trivial)
theorem QA.apart {S : Nat → Prop} {A B : World} {G : Gq} {q : Qm} (h : QA A G q) (hp : Part S A B) (hO : ∀ i, G.O i → ¬ S i) (hF : ∀ i, G.F i → ¬ S i) : QA B G q := h.kept (ok := fun i => ¬ S i) (Kpt.of_part hp fun _ h => h) hO hF
theorem EnAt.at_ {w : World} {F : Nat → Prop} {e : En} (h : EnAt w F e) (j : Nat) (v : Value) (hv : e.cells[j]? = some v) : w.cell? ⟨e.p, j, none⟩ = some v := by
  rw [cell_of_row _ _ _ _ _ _ h.blk]
  simpa using hv
theorem EnAt.z {w : World} {F : Nat → Prop} {e : En} (h : EnAt w F e) : Z12 w e.p 0 e.c := Z12.of fun i v hv => by
  rw [Nat.zero_add]
  refine h.at_ i v ?_
  have hi : i < e.c.cells.length := (List.getElem?_eq_some_iff.1 hv).1
  rw [En.cells, List.getElem?_append_left hi]
  exact hv
theorem EnAt.c12 {w : World} {F : Nat → Prop} {e : En} (h : EnAt w F e) :
    w.cell? ⟨e.p, 12, none⟩ = some (.pointer (some ⟨e.m, 0, none⟩)) ∧ w.cell? ⟨e.p, 13, none⟩ = some (.int .i64 e.st) ∧ w.cell? ⟨e.p, 14, none⟩ = some (.int .i64 e.sn) ∧ w.cell? ⟨e.p, 15, none⟩ = some (.int .i64 e.la) ∧ w.cell? ⟨e.p, 16, none⟩ = some (.int .i64 e.ms) :=
  ⟨h.at_ 12 _ rfl, h.at_ 13 _ rfl, h.at_ 14 _ rfl, h.at_ 15 _ rfl, h.at_ 16 _ rfl⟩
theorem EnAt.fz {w : World} {F : Nat → Prop} {e : En} (h : EnAt w F e) (j : Nat) : w.frozen? ⟨e.p, j, none⟩ = false := by simp [World.frozen?, h.blk]
theorem MgAt.at_ {w : World} {m : Nat} {g : Mg} (h : MgAt w m g) : w.cell? ⟨m, 0, none⟩ = some (.int .i64 g.un) ∧ w.cell? ⟨m, 1, none⟩ = some (.int .i64 g.tr) ∧ w.cell? ⟨m, 2, none⟩ = some (.bool g.gv) ∧ w.frozen? ⟨m, 2, none⟩ = false :=
  ⟨by rw [cell_of_row _ _ _ _ _ _ h]; rfl, by rw [cell_of_row _ _ _ _ _ _ h]; rfl, by rw [cell_of_row _ _ _ _ _ _ h]; rfl, by simp [World.frozen?, show w.heap[m]? = _ from h]⟩
theorem QA.b0 {w : World} {G : Gq} {q : Qm} (h : QA w G q) : w.cell? ⟨G.b, 0, none⟩ = some (.slice G.s.1 G.s.2.1 G.s.2.2) ∧ w.cell? ⟨G.b, 1, none⟩ = some (.int .u32 q.nx) ∧ w.frozen? ⟨G.b, 0, none⟩ = false ∧ w.frozen? ⟨G.b, 1, none⟩ = false :=
  ⟨by rw [cell_of_row _ _ _ _ _ _ h.blk]; rfl, by rw [cell_of_row _ _ _ _ _ _ h.blk]; rfl, by simp [World.frozen?, h.blk], by simp [World.frozen?, h.blk]⟩
theorem cells_cells {w : World} {k k' : Nat} {cs cs' : Array Value} {t t' : TypeId} {fr fr' : Nat × Nat} (hk : w.heap[k]? = some (.cells cs t fr)) (hk' : w.heap[k']? = some (.cells cs' t' fr')) (ht : t ≠ t') : k ≠ k' := by
  rintro rfl
  rw [hk'] at hk
  injection hk with hk
  injection hk with _ h2
  exact ht h2.symm
theorem own_cells {w : World} {base : Nat} {e : TypeId} {size : Nat} {v : Value} {n : Nat} {xs : List Value} (h : w.ownsRow base e size v n xs) {g : Nat} (hg : v.ownBlock = some g) : ∃ cur fr, w.heap[g]? = some (.cells cur e fr) := by
  rcases h.2 with ⟨rfl, _⟩ | ⟨g', cap, cur, rfl, _, hgg, _⟩
  · simp [Value.ownBlock] at hg
  · simp [Value.ownBlock] at hg
    subst hg
    exact ⟨cur, _, hgg⟩
theorem part_set (w : World) (g c : Nat) (u : Value) : Part (fun i => i = g) w (w.setCell ⟨g, c, none⟩ u) := (Part.refl (fun i => i = g) w).setCell (p := ⟨g, c, none⟩) (.inl rfl) u
theorem QA.notF {w : World} {G : Gq} {q : Qm} (h : QA w G q) {g : Nat} (hg : G.O g) : ∀ i, G.F i → ¬ i = g := fun i hi e => h.dis g hg (by rw [← e]; exact hi)
theorem nodup_set {l : List Nat} (h : l.Nodup) {i j : Nat} {x : Nat} (hi : l[i]? = some x) (hj : l[j]? = some x) : i = j := by
  have hli := (List.getElem?_eq_some_iff.1 hi).1
  have hlj := (List.getElem?_eq_some_iff.1 hj).1
  exact (List.getElem_inj (h₀ := hli) (h₁ := hlj) h).1 (by rw [(List.getElem?_eq_some_iff.1 hi).2, (List.getElem?_eq_some_iff.1 hj).2])
theorem QA.setE {w : World} {G : Gq} {q : Qm} (h : QA w G q) {i : Nat} {e e' : En} (he : q.es[i]? = some e) (j : Nat) (v : Value) (hp : e'.p = e.p) (hc : e'.c = e.c) (hm : e'.m = e.m) (hcs : e.cells.toArray.setIfInBounds j v = e'.cells.toArray) :
    QA (w.setCell ⟨e.p, j, none⟩ v) G { q with es := q.es.set i e' } ∧ Part (fun k => k = e.p) w (w.setCell ⟨e.p, j, none⟩ v) := by
  have hpt := part_set w e.p j v
  have hem : e ∈ q.es := List.mem_of_getElem? he
  obtain ⟨a1, a2, a3, a4⟩ := h.en e hem
  have hF := h.notF a2
  have hl : i < q.es.length := (List.getElem?_eq_some_iff.1 he).1
  have k := Kpt.of_part (ok := fun x => ¬ x = e.p) hpt fun _ h => h
  have hmap : (q.es.set i e').map En.p = q.es.map En.p := by
    rw [List.map_set, hp]
    apply List.ext_getElem?
    intro t
    rw [List.getElem?_set]
    by_cases ht : i = t
    · subst ht
      rw [if_pos rfl, if_pos (by simpa using hl), List.getElem?_map, he]
      rfl
    · rw [if_neg ht]
  have hmapv : (q.es.set i e').map En.ptr = q.es.map En.ptr := by
    have e1 : ∀ l : List En, l.map En.ptr = (l.map En.p).map fun p : Nat => Value.pointer (some ⟨p, 0, none⟩) := fun l => by rw [List.map_map]; rfl
    rw [e1, e1, hmap]
  refine ⟨⟨(hpt.block _ (h.olt _ h.ob) fun ee => cells_cells h.blk a1.blk (by decide) ee).trans h.blk, h.ob, ?_, h.ov, ?_, ?_, h.nx, by simpa using h.le, h.dis, fun x hx => Nat.lt_of_lt_of_le (h.olt x hx) hpt.size, fun x hx => Nat.lt_of_lt_of_le (h.flt x hx) hpt.size⟩, hpt⟩
  · show World.ownsRow _ 0 _ 1 _ _ ((q.es.set i e').map En.ptr)
    rw [hmapv]
    refine k.own h.row fun g hg ee => ?_
    obtain ⟨cur, fr, hcur⟩ := own_cells h.row hg
    exact cells_cells hcur a1.blk (by decide) ee
  · intro x hx
    have hx : x ∈ q.es.set i e' := hx
    obtain ⟨t, ht⟩ := List.getElem?_of_mem hx
    rw [List.getElem?_set] at ht
    by_cases hit : i = t
    · subst hit
      rw [if_pos rfl, if_pos hl] at ht
      injection ht with ht
      subst ht
      refine ⟨⟨?_, ?_, by rw [hc]; exact a1.sm, by rw [hc]; exact a1.inf⟩, by rw [hp]; exact a2, ?_, by rw [hm]; exact a4⟩
      · rw [hp, heap_setCell_same w e.p j _ _ _ a1.blk, hcs]
      · rw [hc]
        exact a1.zv.kept k fun A hA a ea => hF _ (a1.inf A hA a ea)
      · rw [hm]
        exact (hpt.block _ (h.olt _ a4) fun ee => cells_cells a3 a1.blk (by decide) ee).trans a3
    · rw [if_neg hit] at ht
      obtain ⟨b1, b2, b3, b4⟩ := h.en x (List.mem_of_getElem? ht)
      refine ⟨b1.kept k (fun ee => hit ?_) hF, b2, (hpt.block _ (h.olt _ b4) fun ee => cells_cells b3 a1.blk (by decide) ee).trans b3, b4⟩
      refine nodup_set h.nd (x := e.p) (by rw [List.getElem?_map, he]; rfl) ?_
      rw [List.getElem?_map, ht, ← ee]
      rfl
  · show ((q.es.set i e').map En.p).Nodup
    rw [hmap]
    exact h.nd
theorem QA.setG {w : World} {G : Gq} {q : Qm} (h : QA w G q) {e : En} (he : e ∈ q.es) (gv : Bool) :
    QA (w.setCell ⟨e.m, 2, none⟩ (.bool gv)) G { q with mg := fun x => if x = e.m then ⟨(q.mg e.m).un, (q.mg e.m).tr, gv⟩ else q.mg x } ∧ Part (fun k => k = e.m) w (w.setCell ⟨e.m, 2, none⟩ (.bool gv)) := by
  have hpt := part_set w e.m 2 (.bool gv)
  obtain ⟨a1, a2, a3, a4⟩ := h.en e he
  have hF := h.notF a4
  have k := Kpt.of_part (ok := fun x => ¬ x = e.m) hpt fun _ h => h
  refine ⟨⟨(hpt.block _ (h.olt _ h.ob) fun ee => cells_cells h.blk a3 (by decide) ee).trans h.blk, h.ob, ?_, h.ov, ?_, h.nd, h.nx, h.le, h.dis, fun x hx => Nat.lt_of_lt_of_le (h.olt x hx) hpt.size, fun x hx => Nat.lt_of_lt_of_le (h.flt x hx) hpt.size⟩, hpt⟩
  · refine k.own h.row fun g hg ee => ?_
    obtain ⟨cur, fr, hcur⟩ := own_cells h.row hg
    exact cells_cells hcur a3 (by decide) ee
  · intro x hx
    obtain ⟨b1, b2, b3, b4⟩ := h.en x hx
    refine ⟨b1.kept k (fun ee => cells_cells b1.blk a3 (by decide) ee) hF, b2, ?_, b4⟩
    show MgAt _ x.m (if x.m = e.m then _ else q.mg x.m)
    by_cases hxm : x.m = e.m
    · rw [if_pos hxm, hxm]
      unfold MgAt
      rw [heap_setCell_same w e.m 2 _ _ _ a3]
      rfl
    · rw [if_neg hxm]
      exact (hpt.block _ (h.olt _ b4) hxm).trans b3
theorem QA.setN {w : World} {G : Gq} {q : Qm} (h : QA w G q) {nx : Int} (hn : 0 ≤ nx ∧ nx < 4294967296) :
    QA (w.setCell ⟨G.b, 1, none⟩ (.int .u32 nx)) G { q with nx := nx } ∧ Part (fun k => k = G.b) w (w.setCell ⟨G.b, 1, none⟩ (.int .u32 nx)) := by
  have hpt := part_set w G.b 1 (.int .u32 nx)
  have hF := h.notF h.ob
  have k := Kpt.of_part (ok := fun x => ¬ x = G.b) hpt fun _ h => h
  refine ⟨⟨heap_setCell_same w G.b 1 _ _ _ h.blk, h.ob, ?_, h.ov, ?_, h.nd, hn, h.le, h.dis, fun x hx => Nat.lt_of_lt_of_le (h.olt x hx) hpt.size, fun x hx => Nat.lt_of_lt_of_le (h.flt x hx) hpt.size⟩, hpt⟩
  · refine k.own h.row fun g hg ee => ?_
    obtain ⟨cur, fr, hcur⟩ := own_cells h.row hg
    exact cells_cells hcur h.blk (by decide) ee
  · intro x hx
    obtain ⟨b1, b2, b3, b4⟩ := h.en x hx
    exact ⟨b1.kept k (fun ee => cells_cells b1.blk h.blk (by decide) ee) hF, b2, (hpt.block _ (h.olt _ b4) fun ee => cells_cells b3 h.blk (by decide) ee).trans b3, b4⟩
end
section
open Go.RowKit
def dist (m a b : Int) : Int := (b - a) % m
def lessI (m h a b : Int) : Bool := decide (0 < dist m a b ∧ dist m a b < h)
def less32 (a b : Int) : Bool := lessI 4294967296 2147483648 a b
def less16 (a b : Int) : Bool := lessI 65536 32768 a b
def dist32 (a b : Int) : Int := dist 4294967296 a b
theorem dist32_lo (a b : Int) : 0 ≤ dist32 a b := by unfold dist32 dist; omega
theorem dist32_hi (a b : Int) : dist32 a b < 4294967296 := by unfold dist32 dist; omega
theorem dist16_lo (a b : Int) : 0 ≤ dist 65536 a b := by unfold dist; omega
theorem dist16_hi (a b : Int) : dist 65536 a b < 65536 := by unfold dist; omega
theorem wrap_u32 (a : Int) : IntKind.u32.wrap a = a % 4294967296 := by simp [IntKind.wrap, IntKind.signed, IntKind.bits]
theorem wrap_u16 (a : Int) : IntKind.u16.wrap a = a % 65536 := by simp [IntKind.wrap, IntKind.signed, IntKind.bits]
theorem less_hi {m h a b : Int} {p : Prop} [Decidable p] (h1 : 0 < dist m a b) (hp : p ↔ dist m a b < h) : decide p = lessI m h a b := by
  unfold lessI
  by_cases hh : dist m a b < h
  · rw [decide_eq_true (hp.2 hh), decide_eq_true ⟨h1, hh⟩]
  · rw [decide_eq_false (fun x => hh (hp.1 x)), decide_eq_false (fun x => hh x.2)]
theorem less_no {m h a b : Int} (h1 : ¬ 0 < dist m a b) : false = lessI m h a b := by
  unfold lessI
  rw [decide_eq_false (fun x => h1 x.1)]
theorem ret_bool {a b : Bool} (h : a = b) : Ending.returned (.bool a) = .returned (.bool b) := by rw [h]
theorem ret_int {k : IntKind} {a b : Int} (h : a = b) : Ending.returned (.int k a) = .returned (.int k b) := by rw [h]
theorem steps32_any (a b : Int) (w : World) :
    Calls Tryz.prog 22 #[.int .u32 a, .int .u32 b] w fun e w' => e = .returned (.int .u32 (dist32 a b)) ∧ w = w' := by
  go_enter Tryz.func22, Tryz.ntmps22
  go_wp2_with fail
  go_ret
  simp [dist32, dist]
theorem steps16_any (a b : Int) (w : World) :
    Calls Tryz.prog 154 #[.int .u16 a, .int .u16 b] w fun e w' => e = .returned (.int .u16 (dist 65536 a b)) ∧ w = w' := by
  have h : Hid (IntKind.u16.wrap (b - a) = dist 65536 a b) := wrap_u16 _
  go_enter Tryz.func154, Tryz.ntmps154
  go_wp2_with fail
  go_ret
  simp [← h.out]
theorem less32_any (a b : Int) (w : World) :
    Calls Tryz.prog 113 #[.int .u32 a, .int .u32 b] w fun e w' => e = .returned (.bool (less32 a b)) ∧ w = w' := by
  have l0 := dist32_lo a b
  have l1 := dist32_hi a b
  have hx : bits BinOp.xor IntKind.u32 IntKind.u32.max 0 = 4294967295 := by decide +kernel
  have hd : (4294967295 : Int).tdiv 2 = 2147483647 := by decide +kernel
  go_enter Tryz.func113, Tryz.ntmps113
  go_wp2_with (go_at_call 22; refine (steps32_any _ _ _).mono ?_; rintro e w' ⟨rfl, rfl⟩)
  · go_ret
    exact ⟨ret_bool (less_hi (by assumption) Iff.rfl), rfl⟩
  · go_ret
    exact ⟨ret_bool (less_no (by unfold dist32 at *; omega)), rfl⟩
theorem less16_any (a b : Int) (w : World) :
    Calls Tryz.prog 139 #[.int .u16 a, .int .u16 b] w fun e w' => e = .returned (.bool (less16 a b)) ∧ w = w' := by
  have l0 := dist16_lo a b
  have l1 := dist16_hi a b
  have hx : bits BinOp.xor IntKind.u16 IntKind.u16.max 0 = 65535 := by decide +kernel
  have hd : (65535 : Int).tdiv 2 = 32767 := by decide +kernel
  go_enter Tryz.func139, Tryz.ntmps139
  go_wp2_with (go_at_call 154; refine (steps16_any _ _ _).mono ?_; rintro e w' ⟨rfl, rfl⟩)
  · go_ret
    exact ⟨ret_bool (less_hi (by assumption) (by simp [wrap_u16])), rfl⟩
  · go_ret
    exact ⟨ret_bool (less_no (by omega)), rfl⟩
theorem Less_any (a b : Int) (w : World) :
    Calls Tryz.prog 79 #[.int .u32 a, .int .u32 b] w fun e w' => e = .returned (.bool (less32 a b)) ∧ w = w' := by
  go_enter Tryz.func79, Tryz.ntmps79
  go_wp2_with (go_at_call 113; refine (less32_any _ _ _).mono ?_; rintro e w' ⟨rfl, rfl⟩)
  go_ret
  exact ⟨rfl, rfl⟩
theorem Less16_any (a b : Int) (w : World) :
    Calls Tryz.prog 128 #[.int .u16 a, .int .u16 b] w fun e w' => e = .returned (.bool (less16 a b)) ∧ w = w' := by
  go_enter Tryz.func128, Tryz.ntmps128
  go_wp2_with (go_at_call 139; refine (less16_any _ _ _).mono ?_; rintro e w' ⟨rfl, rfl⟩)
  go_ret
  exact ⟨rfl, rfl⟩
theorem Dist_any (a b : Int) (w : World) :
    Calls Tryz.prog 10 #[.int .u32 a, .int .u32 b] w fun e w' => e = .returned (.int .u32 (dist32 a b)) ∧ w = w' := by
  go_enter Tryz.func10, Tryz.ntmps10
  go_wp2_with (go_at_call 22; refine (steps32_any _ _ _).mono ?_; rintro e w' ⟨rfl, rfl⟩)
  go_ret
  exact ⟨rfl, rfl⟩
end
section
open Go.ChangeShapes Go.WideShapes Go.ChangeAt Go.RowKit
theorem own : ownKnob Tryz.prog.godebug = none := by kernel_rfl
theorem u8_bytes : Tryz.prog.bytesOf 5 = 1 := by kernel_rfl
theorem laidOut : laidOutB Tryz.prog = true := by kernel_rfl
theorem open_bytes {H : Type} {enc : TypeId × Value → H} {P : Program} {W : World} {base : Nat} {held : Bool} {t e : TypeId} (ht : P.underlying t = some (.slice e)) (he : P.underlying e = some (.int .u8)) (hc : P.cellsOf e = 1)
    {a : Option Addr} {n c : Nat} {d : DataW H} {p : List MemPlace} (h : DataW.Trod enc P W base (fun _ => true) held t (.slice a n c) d p) :
    ∃ bs, BS W a n c bs ∧ ((d = .nil ∧ n = 0 ∧ c = 0) ∨ ∃ el sp, d = .slice el sp ∧ el.length + sp.length = c) := by
  obtain ⟨fuel, hf⟩ := h
  rcases open_ints ht he hc hf with ⟨hcs, hx⟩ | ⟨x, l, c', zs, hcs, _, hl, hm, hz, hx, hcell, hwz⟩
  · simp [Value.cells] at hcs
    obtain ⟨rfl, rfl, rfl⟩ := hcs
    simp only [Prod.mk.injEq] at hx
    exact ⟨[], BS.nil W, .inl ⟨hx.1, rfl, rfl⟩⟩
  · simp [Value.cells] at hcs
    obtain ⟨rfl, rfl, rfl⟩ := hcs
    have hz' : zs.length = c := by simpa using hz
    simp only [Prod.mk.injEq] at hx
    refine ⟨(zs.take n).map b8, ⟨by simp; omega, hl, fun hne => ?_⟩, .inr ⟨_, _, hx.1, by simp [lits]; omega⟩⟩
    have hlen : n ≤ zs.length := by omega
    have hn : 0 < n := by
      rcases Nat.eq_zero_or_pos n with h0 | h0
      · subst h0; simp [bc] at hne
      · exact h0
    obtain ⟨b, o, spot⟩ := x
    have hc0 := hcell 0 (by omega)
    have hspot : spot = none := by simpa [Addr.add] using World.cell?_spot hc0
    subst hspot
    rw [Addr.add_lit] at hc0
    refine ⟨b, o, rfl, World.block_lt_of_cell? W _ hc0, fun j u hu => ?_⟩
    rw [bc_getElem?, List.getElem?_map] at hu
    have hj : j < n := by
      rcases Nat.lt_or_ge j n with h0 | h0
      · exact h0
      · rw [List.getElem?_eq_none (by simp; omega)] at hu; cases hu
    rw [List.getElem?_take, if_pos hj, List.getElem?_eq_getElem (by omega)] at hu
    have hcj := hcell j (by omega)
    rw [Addr.add_lit] at hcj
    rw [hcj]
    have hw := hwz (zs[j]'(by omega)) (List.getElem_mem _)
    have hb : 0 ≤ zs[j]'(by omega) ∧ zs[j]'(by omega) < 256 := by
      have := bounds_u8 hw
      omega
    simp only [Option.map_some, Option.some.injEq] at hu
    rw [← hu, b8_of _ hb.1 hb.2]
    simp [List.getD, List.getElem?_eq_getElem (show j < zs.length by omega)]
end
section
open Go.RowKit Go.Maps
def flr (q : Qm) : Int := (q.nx - (q.es.length : Int) - 1) % 4294967296
theorem flr_in (q : Qm) : 0 ≤ flr q ∧ flr q < 4294967296 := by unfold flr; omega
theorem list_at (b : Nat) (s1 : Option Addr) (s2 s3 : Nat) (w : World) (c0 : w.cell? ⟨b, 0, none⟩ = some (.slice s1 s2 s3)) : Calls Tryz.prog 37 #[.pointer (some ⟨b, 0, none⟩)] w fun e w' => e = .returned (.slice s1 s2 s3) ∧ w = w' := by
  go_enter Tryz.func37, Tryz.ntmps37
  go_wp2
  go_ret
  exact ⟨rfl, rfl⟩
theorem Floor_at (b : Nat) (s1 : Option Addr) (s2 s3 : Nat) (nx : Int) (w : World) (c0 : w.cell? ⟨b, 0, none⟩ = some (.slice s1 s2 s3)) (c1 : w.cell? ⟨b, 1, none⟩ = some (.int .u32 nx)) (hn : s2 ≤ 1024) :
    Calls Tryz.prog 109 #[.pointer (some ⟨b, 0, none⟩)] w fun e w' => e = .returned (.int .u32 ((nx - (s2 : Int) - 1) % 4294967296)) ∧ ∃ k, w' = w.drewN k := by
  have HF := keep (show ((nx - (s2 : Int)) % 4294967296 - 1) % 4294967296 = (nx - (s2 : Int) - 1) % 4294967296 by omega)
  clear hn
  go_enter Tryz.func109, Tryz.ntmps109
  go_wp2
  go_quiet (fail)
  go_wp2
  go_ret
  exact ⟨ret_int HF.out, _, rfl⟩
theorem Floor_any {w : World} {G : Gq} {q : Qm} (h : QA w G q) : Calls Tryz.prog 109 #[.pointer (some ⟨G.b, 0, none⟩)] w fun e w' => e = .returned (.int .u32 (flr q)) ∧ ∃ k, w' = w.drewN k := by
  have := Floor_at G.b _ _ _ _ w h.b0.1 h.b0.2.1 (by rw [h.n]; exact h.le)
  rw [h.n] at this
  exact this
theorem Next_any {w : World} {G : Gq} {q : Qm} (h : QA w G q) : Calls Tryz.prog 23 #[.pointer (some ⟨G.b, 0, none⟩)] w fun e w' => e = .returned (.int .u32 q.nx) ∧ w = w' := by
  have c1 := h.b0.2.1
  clear h
  go_enter Tryz.func23, Tryz.ntmps23
  go_wp2
  go_ret
  exact ⟨rfl, rfl⟩
theorem Len_any {w : World} {G : Gq} {q : Qm} (h : QA w G q) : Calls Tryz.prog 30 #[.pointer (some ⟨G.b, 0, none⟩)] w fun e w' => e = .returned (.int .i64 (q.es.length : Int)) ∧ w = w' := by
  have K := keep (list_at G.b _ _ _ w h.b0.1)
  have HN := keep h.n
  clear h
  go_enter Tryz.func30, Tryz.ntmps30
  go_wp2_with (go_at_call 37; refine K.out.mono ?_; rintro e w' ⟨rfl, rfl⟩)
  go_ret
  exact ⟨ret_int (by rw [HN.out]), rfl⟩
def stp (q : Qm) (n : Int) : Nat := if dist32 (flr q) n ≤ (q.es.length : Int) then (dist32 (flr q) n).toNat else 0
theorem stp_le (q : Qm) (n : Int) : stp q n ≤ q.es.length := by
  unfold stp
  have := dist32_lo (flr q) n
  split <;> omega
theorem len_u32 (n : Nat) (h : n ≤ 1024) : IntKind.u32.wrap (n : Int) = (n : Int) := by rw [wrap_u32]; omega
theorem upTo_any {w : World} {G : Gq} {q : Qm} (h : QA w G q) (n : Int) :
    Calls Tryz.prog 118 #[.pointer (some ⟨G.b, 0, none⟩), .int .u32 n] w fun e w' => (∃ A c, e = .returned (.slice A (stp q n) c) ∧ stp q n ≤ c ∧ (stp q n ≠ 0 → A = G.s.1)) ∧ ∃ k, w' = w.drewN k := by
  have HL := keep (list_at G.b _ _ _ w h.b0.1)
  have HF := keep (Floor_any h)
  have hd := dist32_lo (flr q) n
  have hd2 := dist32_hi (flr q) n
  have hle := h.le
  have hu := len_u32 G.s.2.1 (by rw [h.n]; exact hle)
  have hn := h.n
  have hc := h.sr.1
  obtain ⟨d, hd'⟩ : ∃ d, d = dist32 (flr q) n := ⟨_, rfl⟩
  have hst : stp q n = if d ≤ (q.es.length : Int) then d.toNat else 0 := by rw [hd']; rfl
  have K := fun w => Dist_any (flr q) n w
  rw [← hd'] at K hd hd2
  generalize flr q = f at HF K
  generalize stp q n = s at hst ⊢
  rw [← hn] at hst hle
  replace K := keep K
  clear hd' h hn
  obtain ⟨b, ⟨s1, s2, s3⟩, O, F⟩ := G
  dsimp only at *
  by_cases h0 : (s2 : Int) < d
  · have HS : Hid (s = 0) := by rw [hst, if_neg (by omega)]; exact keep rfl
    clear hst
    have HB := keep (And.intro hd hd2)
    clear hd hd2
    go_enter Tryz.func118, Tryz.ntmps118
    go_wp2_with (first
      | (go_at_call 37; refine HL.out.mono ?_; rintro e w' ⟨rfl, rfl⟩)
      | (go_at_call 109; refine HF.out.mono ?_; rintro e w' ⟨rfl, k, rfl⟩)
      | (go_at_call 10; refine (K.out _).mono ?_; rintro e w' ⟨rfl, rfl⟩))
    go_ret
    rw [HS.out]
    exact ⟨⟨_, _, rfl, Nat.zero_le _, fun h => absurd rfl h⟩, _, rfl⟩
  · obtain ⟨m, rfl⟩ : ∃ m : Nat, d = (m : Int) := ⟨d.toNat, by omega⟩
    have HS : Hid (s = m) := by rw [hst, if_pos (by omega)]; exact keep (by simp)
    have hm : m ≤ s3 := by omega
    have hm2 : (m : Int) ≤ (s3 : Int) := by omega
    clear hst
    have HB := keep (And.intro hd hd2)
    clear hd hd2
    go_enter Tryz.func118, Tryz.ntmps118
    go_wp2_with (first
      | (go_at_call 37; refine HL.out.mono ?_; rintro e w' ⟨rfl, rfl⟩)
      | (go_at_call 109; refine HF.out.mono ?_; rintro e w' ⟨rfl, k, rfl⟩)
      | (go_at_call 10; refine (K.out _).mono ?_; rintro e w' ⟨rfl, rfl⟩))
    go_ret
    rw [HS.out]
    exact ⟨⟨_, _, rfl, hm, fun h => rfl⟩, _, rfl⟩
theorem octets_at (p : Nat) (A : Option Addr) (n c : Nat) (w : World) (h : w.cell? ⟨p, 11, none⟩ = some (.slice A n c)) : Calls Tryz.prog 67 #[.pointer (some ⟨p, 0, none⟩)] w fun e w' => e = .returned (.int .i64 (n : Int)) ∧ w = w' := by
  go_enter Tryz.func67, Tryz.ntmps67
  go_wp2
  go_ret
  exact ⟨rfl, rfl⟩
theorem waits_at (p : Nat) (s : Int) (w : World) (h : w.cell? ⟨p, 13, none⟩ = some (.int .i64 s)) : Calls Tryz.prog 120 #[.pointer (some ⟨p, 0, none⟩)] w fun e w' => e = .returned (.bool (s == 0)) ∧ w = w' := by
  go_enter Tryz.func120, Tryz.ntmps120
  go_wp2
  go_ret
  exact ⟨rfl, rfl⟩
theorem open_at (p : Nat) (s : Int) (w : World) (h : w.cell? ⟨p, 13, none⟩ = some (.int .i64 s)) : Calls Tryz.prog 134 #[.pointer (some ⟨p, 0, none⟩)] w fun e w' => e = .returned (.bool (s != 3 && s != 4)) ∧ w = w' := by
  by_cases h3 : s = 3
  · subst h3
    go_enter Tryz.func134, Tryz.ntmps134
    go_wp2
    all_goals (try go_quiet (fail))
    all_goals go_wp2
    all_goals (go_ret; exact ⟨rfl, rfl⟩)
  · have h3' : (s != 3) = true := by simpa using h3
    clear h3
    go_enter Tryz.func134, Tryz.ntmps134
    go_wp2
    all_goals (try go_quiet (fail))
    all_goals go_wp2
    all_goals (go_ret; exact ⟨by rw [h3']; rfl, rfl⟩)
theorem send_at (p : Nat) (now sn a1 a2 a3 : Int) (w : World) (h13 : w.cell? ⟨p, 13, none⟩ = some (.int .i64 a1)) (h14 : w.cell? ⟨p, 14, none⟩ = some (.int .i64 sn)) (h15 : w.cell? ⟨p, 15, none⟩ = some (.int .i64 a2)) (h16 : w.cell? ⟨p, 16, none⟩ = some (.int .i64 a3))
    (f13 : w.frozen? ⟨p, 13, none⟩ = false) (f14 : w.frozen? ⟨p, 14, none⟩ = false) (f15 : w.frozen? ⟨p, 15, none⟩ = false) (f16 : w.frozen? ⟨p, 16, none⟩ = false) :
    Calls Tryz.prog 76 #[.pointer (some ⟨p, 0, none⟩), .int .i64 now] w fun e w' => e = .returned (.tuple #[]) ∧ w' = (((w.setCell ⟨p, 13, none⟩ (.int .i64 1)).setCell ⟨p, 15, none⟩ (.int .i64 now)).setCell ⟨p, 16, none⟩ (.int .i64 0)).setCell ⟨p, 14, none⟩ (.int .i64 (wrap64 (sn + 1))) := by
  go_enter Tryz.func76, Tryz.ntmps76
  go_wp2
  exact bodyPost_end (results_none rfl _ _ _) rfl ⟨rfl, rfl⟩
end
end Go.Proofs.YtnlkdlnmffibhaaGreat
