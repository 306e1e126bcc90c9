/- KAS of the stage: texts JA, JB, joined. -/
import Derived.WalkSpells
import Derived.KernelRfl
import Derived.Test.YtnlkdlnmffibhaaGreatKAP
import Derived.Test.YtnlkdlnmffibhaaGreatKAR
set_option linter.unusedSimpArgs false
set_option linter.unusedVariables false
set_option maxRecDepth 8000
namespace Go.Proofs.YtnlkdlnmffibhaaGreat
section
open Go.RowKit Go.Maps
structure Gh where
  b : Nat
  k : Nat
  sb : Nat
  n : Nat
  v : Value
  pb : Int → Option Nat
  pc : Int → CX
  far : Int → Int
  wm : Nat → Nat
  gs : Nat → Int → Option MX
  rs : List MX
  O : Nat → Prop
  F : Nat → Prop
def InF_jo (F : Nat → Prop) (A : Option Addr) : Prop := ∀ a, A = some a → F a.block
structure PieceAt (w : World) (F : Nat → Prop) (p : Nat) (x : CX) (f : Int) : Prop where
  blk : w.heap[p]? = some (.cells (x.cells ++ [Value.int .u32 f]).toArray 194 (0, 0))
  cv : CV w x
  pr : x.pr = (none, 0, 0)
  ps : x.ps = []
  da : InF_jo F x.da.1
  f0 : 0 ≤ f ∧ f < 4294967296
def pgV (pb : Int → Option Nat) : VM := fun n => (pb n).map fun p => .pointer (some ⟨p, 0, none⟩)
structure PA (w : World) (G : Gh) (l : List Ch) : Prop where
  map : MapV w 22 .u32 G.k l.length (pgV G.pb)
  ok : G.O G.k
  op : ∀ n p, G.pb n = some p → G.O p ∧ PieceAt w G.F p (G.pc n) (G.far n) ∧ (G.pc n).ch ∈ l ∧ (G.pc n).a = n
  has : ∀ x ∈ l, ∃ p, G.pb x.a = some p ∧ (G.pc x.a).ch = x
  inj : ∀ n m p, G.pb n = some p → G.pb m = some p → n = m
def wgV (g : Int → Option MX) : VM := fun n => (g n).map fun x => .agg x.cells.toArray
structure SA_jo (w : World) (G : Gh) (nx : Int → Int) (st : List (Int × Msg)) : Prop where
  row : ∃ cs, w.heap[G.sb]? = some (.cells cs 151 (0, 0)) ∧ ∀ i, i < G.n → cs[i * 2]? = some (.map (some (G.wm i))) ∧ cs[i * 2 + 1]? = some (.int .u16 (nx i))
  maps : ∀ i, i < G.n → MapV w 30 .u16 (G.wm i) (stc st i) (wgV (G.gs i))
  osb : G.O G.sb
  ow : ∀ i, i < G.n → G.O (G.wm i)
  inj : ∀ i i', i < G.n → i' < G.n → G.wm i = G.wm i' → i = i'
  msg : ∀ i, i < G.n → ∀ k, (G.gs i k).map MX.msg = hasS st i k
  vs : ∀ i, i < G.n → ∀ k x, G.gs i k = some x → MV w x ∧ InF_jo G.F x.da.1
structure RA (w : World) (G : Gh) (rd : List Msg) : Prop where
  row : w.ownsRow 0 33 4 G.v G.rs.length (flatF MX.cells G.rs)
  own : ∀ g, G.v.ownBlock = some g → G.O g
  is : G.rs.map MX.msg = rd
  vs : ∀ x ∈ G.rs, MV w x ∧ InF_jo G.F x.da.1
structure JA (w : World) (G : Gh) (j : Jn) (o : Int) : Prop where
  blk : w.heap[G.b]? = some (.cells #[.map (some G.k), .slice (some ⟨G.sb, 0, none⟩) G.n G.n, G.v, .int .i64 o] 126 (0, 0))
  ob : G.O G.b
  n : j.n = (G.n : Nat)
  pa : PA w G j.ch
  sa : SA_jo w G j.nx j.st
  ra : RA w G j.rd
  km : ∀ i, i < G.n → G.wm i ≠ G.k
  dis : ∀ i, G.O i → ¬ G.F i
  olt : ∀ i, G.O i → i < w.heap.size
  flt : ∀ i, G.F i → i < w.heap.size
structure Later (w : World) (G : Gh) (w' : World) (G' : Gh) : Prop where
  b : G'.b = G.b
  k : G'.k = G.k
  sb : G'.sb = G.sb
  n : G'.n = G.n
  wm : G'.wm = G.wm
  part : Part G.O w w'
  o : ∀ i, G'.O i → G.O i ∨ w.heap.size ≤ i
  f : ∀ i, G'.F i → G.F i ∨ w.heap.size ≤ i
theorem Later.refl (w : World) (G : Gh) : Later w G w G := ⟨rfl, rfl, rfl, rfl, rfl, Part.refl _ _, fun _ h => .inl h, fun _ h => .inl h⟩
theorem Later.trans {a b c : World} {G H K : Gh} (h : Later a G b H) (g : Later b H c K) : Later a G c K :=
  ⟨g.b.trans h.b, g.k.trans h.k, g.sb.trans h.sb, g.n.trans h.n, g.wm.trans h.wm, h.part.trans g.part h.o, fun i hi => by
    rcases g.o i hi with h1 | h1
    · exact h.o i h1
    · exact .inr (Nat.le_trans h.part.size h1), fun i hi => by
    rcases g.f i hi with h1 | h1
    · exact h.f i h1
    · exact .inr (Nat.le_trans h.part.size h1)⟩
theorem Later.below {w w' : World} {G : Gh} (h : Below w.heap.size w w') : Later w G w' G := ⟨rfl, rfl, rfl, rfl, rfl, Part.of_below _ h, fun _ h => .inl h, fun _ h => .inl h⟩
theorem Part.bs {S : Nat → Prop} {w w' : World} (h : Part S w w') {F : Nat → Prop} (hF : ∀ i, F i → ¬ S i) {A : Option Addr} {n c : Nat} {bs : List UInt8} (hs : BS w A n c bs) (hA : InF_jo F A) : BS w' A n c bs :=
  ⟨hs.1, hs.2.1, h.sr hs.2.2 fun a e => hF _ (hA a e)⟩
theorem PieceAt.kept {S : Nat → Prop} {w w' : World} {F : Nat → Prop} {p : Nat} {x : CX} {f : Int} (h : PieceAt w F p x f) (hp : Part S w w') (hF : ∀ i, F i → ¬ S i) (hs : ¬ S p) : PieceAt w' F p x f := by
  refine ⟨(hp.block p (Array.getElem?_eq_some_iff.1 h.blk).1 hs).trans h.blk, ⟨h.cv.kd, h.cv.fl, h.cv.a, h.cv.b, h.cv.ou, h.cv.si, h.cv.pp, ?_, hp.bs hF h.cv.bs h.da⟩, h.pr, h.ps, h.da, h.f0⟩
  rw [h.pr, h.ps]
  exact PR.nil _
theorem MV.kept {S : Nat → Prop} {w w' : World} {F : Nat → Prop} {x : MX} (h : MV w x ∧ InF_jo F x.da.1) (hp : Part S w w') (hF : ∀ i, F i → ¬ S i) : MV w' x ∧ InF_jo F x.da.1 := ⟨⟨h.1.st, h.1.pp, hp.bs hF h.1.bs h.2⟩, h.2⟩
theorem PA.kept {S : Nat → Prop} {w w' : World} {G : Gh} {l : List Ch} (h : PA w G l) (hp : Part S w w') (hF : ∀ i, G.F i → ¬ S i) (hk : ¬ S G.k) (hs : ∀ n p, G.pb n = some p → ¬ S p) : PA w' G l :=
  ⟨h.map.kept hp hk, h.ok, fun n p e => by
    obtain ⟨a, b, c⟩ := h.op n p e
    exact ⟨a, b.kept hp hF (hs n p e), c⟩, h.has, h.inj⟩
theorem SA_jo.kept {S : Nat → Prop} {w w' : World} {G : Gh} {nx : Int → Int} {st : List (Int × Msg)} (h : SA_jo w G nx st) (hp : Part S w w') (hF : ∀ i, G.F i → ¬ S i) (hk : ¬ S G.sb) (hs : ∀ i, i < G.n → ¬ S (G.wm i)) : SA_jo w' G nx st := by
  obtain ⟨cs, hc, hcs⟩ := h.row
  exact ⟨⟨cs, (hp.block _ (Array.getElem?_eq_some_iff.1 hc).1 hk).trans hc, hcs⟩, fun i hi => (h.maps i hi).kept hp (hs i hi), h.osb, h.ow, h.inj, h.msg, fun i hi k x e => MV.kept (h.vs i hi k x e) hp hF⟩
theorem RA.kept {S : Nat → Prop} {w w' : World} {G : Gh} {rd : List Msg} (h : RA w G rd) (hp : Part S w w') (hF : ∀ i, G.F i → ¬ S i) (hs : ∀ g, G.v.ownBlock = some g → ¬ S g) : RA w' G rd :=
  ⟨hp.own h.row hs, h.own, h.is, fun x hx => MV.kept (h.vs x hx) hp hF⟩
theorem own_cells_jo {w : World} {base : Nat} {e : TypeId} {size : Nat} {v : Value} {n : Nat} {xs : List Value} (h : w.ownsRow base e size v n xs) {g : Nat} (hg : v.ownBlock = some g) : ∃ cur fr, w.heap[g]? = some (.cells cur e fr) := by
  rcases h.2 with ⟨rfl, _⟩ | ⟨g', cap, cur, rfl, _, hgg, _⟩
  · simp [Value.ownBlock] at hg
  · simp [Value.ownBlock] at hg
    subst hg
    exact ⟨cur, _, hgg⟩
section
variable {w w' : World} {G : Gh} {j : Jn} {o : Int}
theorem JA.apart {S : Nat → Prop} (h : JA w G j o) (hp : Part S w w') (hO : ∀ i, G.O i → ¬ S i) (hF : ∀ i, G.F i → ¬ S i) : JA w' G j o :=
  ⟨(hp.block _ (h.olt _ h.ob) (hO _ h.ob)).trans h.blk, h.ob, h.n, h.pa.kept hp hF (hO _ h.pa.ok) (fun n p e => hO _ (h.pa.op n p e).1), h.sa.kept hp hF (hO _ h.sa.osb) (fun i hi => hO _ (h.sa.ow i hi)), h.ra.kept hp hF (fun g e => hO _ (h.ra.own g e)), h.km, h.dis,
    fun i hi => Nat.lt_of_lt_of_le (h.olt i hi) hp.size, fun i hi => Nat.lt_of_lt_of_le (h.flt i hi) hp.size⟩
theorem JA.step (h : JA w G j o) (hb : Below w.heap.size w w') : JA w' G j o := h.apart (Part.of_below (fun _ => False) hb) (fun _ _ hc => hc) (fun _ _ hc => hc)
theorem JA.b_map (h : JA w G j o) {k : Nat} (hk : ∃ es cl, w.heap[k]? = some (.map es cl)) : k ≠ G.b := by
  rintro rfl
  obtain ⟨es, cl, hb⟩ := hk
  rw [h.blk] at hb
  cases hb
theorem JA.b_cells (h : JA w G j o) {k : Nat} {cs : Array Value} {t : TypeId} {fr : Nat × Nat} (hk : w.heap[k]? = some (.cells cs t fr)) (ht : t ≠ 126) : k ≠ G.b := by
  rintro rfl
  rw [h.blk] at hk
  injection hk with hk
  injection hk with _ h2
  exact ht h2.symm
theorem map_cells {k k' : Nat} {cs : Array Value} {t : TypeId} {fr : Nat × Nat} (hk : ∃ es cl, w.heap[k]? = some (.map es cl)) (hk' : w.heap[k']? = some (.cells cs t fr)) : k ≠ k' := by
  rintro rfl
  obtain ⟨es, cl, hb⟩ := hk
  rw [hk'] at hb
  cases hb
theorem cells_cells_jo {k k' : Nat} {cs cs' : Array Value} {t t' : TypeId} {fr fr' : Nat × Nat} (hk : w.heap[k]? = some (.cells cs t fr)) (hk' : w.heap[k']? = some (.cells cs' t' fr')) (ht : t ≠ t') : k ≠ k' := by
  rintro rfl
  rw [hk'] at hk
  injection hk with hk
  injection hk with _ h2
  exact ht h2.symm
theorem JA.sb_cells (h : JA w G j o) : ∃ cs, w.heap[G.sb]? = some (.cells cs 151 (0, 0)) := by
  obtain ⟨cs, hc, _⟩ := h.sa.row
  exact ⟨cs, hc⟩
theorem JA.p_cells (h : JA w G j o) {n : Int} {p : Nat} (e : G.pb n = some p) : ∃ cs, w.heap[p]? = some (.cells cs 194 (0, 0)) := ⟨_, (h.pa.op n p e).2.1.blk⟩
theorem JA.v_cells (h : JA w G j o) {g : Nat} (e : G.v.ownBlock = some g) : ∃ cs fr, w.heap[g]? = some (.cells cs 33 fr) := own_cells_jo h.ra.row e
structure Only (w : World) (G : Gh) (g : Nat) : Prop where
  k : g ≠ G.k
  p : ∀ n p, G.pb n = some p → p ≠ g
  sb : g ≠ G.sb
  wm : ∀ i, i < G.n → G.wm i ≠ g
  v : ∀ i, G.v.ownBlock = some i → i ≠ g
theorem JA.only_b (h : JA w G j o) : Only w G G.b := by
  obtain ⟨cs, hc⟩ := h.sb_cells
  refine ⟨(h.b_map h.pa.map.block).symm, fun n p e => ?_, (h.b_cells hc (by decide)).symm, fun i hi => h.b_map (h.sa.maps i hi).block, fun i e => ?_⟩
  · obtain ⟨cs, hc⟩ := h.p_cells e
    exact h.b_cells hc (by decide)
  · obtain ⟨cs, fr, hc⟩ := h.v_cells e
    exact h.b_cells hc (by decide)
theorem part_set_jo (w : World) (g c : Nat) (u : Value) : Part (fun i => i = g) w (w.setCell ⟨g, c, none⟩ u) := (Part.refl (fun i => i = g) w).setCell (p := ⟨g, c, none⟩) (.inl rfl) u
theorem part_grown {g : Nat} (h : w.grownBy w' (some g)) : Part (fun i => i = g) w w' := Part.of_grown h fun k e => by injection e with e; exact e.symm
theorem JA.notF (h : JA w G j o) {g : Nat} (hg : G.O g) : ∀ i, G.F i → ¬ i = g := fun i hi e => h.dis g hg (by rw [← e]; exact hi)
theorem JA.setO (h : JA w G j o) (o' : Int) : JA (w.setCell ⟨G.b, 3, none⟩ (.int .i64 o')) G j o' ∧ Part (fun i => i = G.b) w (w.setCell ⟨G.b, 3, none⟩ (.int .i64 o')) := by
  have hp := part_set_jo w G.b 3 (.int .i64 o')
  have hb := h.only_b
  refine ⟨⟨heap_setCell_same w G.b 3 _ _ _ h.blk, h.ob, h.n, h.pa.kept hp (h.notF h.ob) (fun e => hb.k e.symm) (fun n p e => hb.p n p e), h.sa.kept hp (h.notF h.ob) (fun e => hb.sb e.symm) (fun i hi => hb.wm i hi), h.ra.kept hp (h.notF h.ob) (fun g e => hb.v g e), h.km, h.dis, ?_, ?_⟩, hp⟩
  · exact fun i hi => Nat.lt_of_lt_of_le (h.olt i hi) hp.size
  · exact fun i hi => Nat.lt_of_lt_of_le (h.flt i hi) hp.size
theorem cells_app (x : CX) (f g : Int) : (x.cells ++ [Value.int .u32 f]).toArray.setIfInBounds 12 (.int .u32 g) = (x.cells ++ [Value.int .u32 g]).toArray := rfl
theorem JA.setFar (h : JA w G j o) {n : Int} {p : Nat} (e : G.pb n = some p) {f : Int} (hf : 0 ≤ f ∧ f < 4294967296) :
    JA (w.setCell ⟨p, 12, none⟩ (.int .u32 f)) { G with far := fun x => if x = n then f else G.far x } j o ∧ Part (fun i => i = p) w (w.setCell ⟨p, 12, none⟩ (.int .u32 f)) := by
  have hp := part_set_jo w p 12 (.int .u32 f)
  obtain ⟨hO, hpc, hl, ha⟩ := h.pa.op n p e
  have hF := h.notF hO
  obtain ⟨cs, hcs⟩ := h.sb_cells
  refine ⟨⟨(hp.block _ (h.olt _ h.ob) fun e' => h.only_b.p n p e e'.symm).trans h.blk, h.ob, h.n, ⟨h.pa.map.kept hp (map_cells h.pa.map.block hpc.blk), h.pa.ok, fun m q em => ?_, h.pa.has, h.pa.inj⟩, ?_, ?_, h.km, h.dis, fun i hi => Nat.lt_of_lt_of_le (h.olt i hi) hp.size, fun i hi => Nat.lt_of_lt_of_le (h.flt i hi) hp.size⟩, hp⟩
  · by_cases hm : m = n
    · subst hm
      have : q = p := by
        have em : G.pb m = some q := em
        rw [e] at em
        injection em with em
        exact em.symm
      subst this
      refine ⟨hO, ?_, hl, ha⟩
      show PieceAt _ G.F q (G.pc m) (if m = m then f else G.far m)
      rw [if_pos rfl]
      refine ⟨?_, ⟨hpc.cv.kd, hpc.cv.fl, hpc.cv.a, hpc.cv.b, hpc.cv.ou, hpc.cv.si, hpc.cv.pp, ?_, hp.bs hF hpc.cv.bs hpc.da⟩, hpc.pr, hpc.ps, hpc.da, hf⟩
      · rw [heap_setCell_same w q 12 _ _ _ hpc.blk, cells_app]
      · rw [hpc.pr, hpc.ps]
        exact PR.nil _
    · obtain ⟨a, b, c⟩ := h.pa.op m q em
      refine ⟨a, ?_, c⟩
      show PieceAt _ G.F q (G.pc m) (if m = n then f else G.far m)
      rw [if_neg hm]
      exact b.kept hp hF fun e' => hm (h.pa.inj m n p (by rw [← e']; exact em) e)
  · have := h.sa.kept hp hF (fun e' => cells_cells_jo hcs hpc.blk (by decide) e') (fun i hi => map_cells (h.sa.maps i hi).block hpc.blk)
    exact ⟨this.row, this.maps, this.osb, this.ow, this.inj, this.msg, this.vs⟩
  · have := h.ra.kept hp hF (fun g eg => by
      obtain ⟨cs, fr, hc⟩ := h.v_cells eg
      exact cells_cells_jo hc hpc.blk (by decide))
    exact ⟨this.row, this.own, this.is, this.vs⟩
theorem JA.setNx (h : JA w G j o) {s : Nat} (hs : s < G.n) (x : Int) :
    JA (w.setCell ⟨G.sb, s * 2 + 1, none⟩ (.int .u16 x)) G { j with nx := setN j.nx s x } o ∧ Part (fun i => i = G.sb) w (w.setCell ⟨G.sb, s * 2 + 1, none⟩ (.int .u16 x)) := by
  have hp := part_set_jo w G.sb (s * 2 + 1) (.int .u16 x)
  have hF := h.notF h.sa.osb
  obtain ⟨cs, hc, hcs⟩ := h.sa.row
  refine ⟨⟨(hp.block _ (h.olt _ h.ob) fun e' => h.only_b.sb e').trans h.blk, h.ob, h.n, h.pa.kept hp hF (map_cells h.pa.map.block hc) (fun n p e => ?_), ⟨⟨_, heap_setCell_same w G.sb _ _ _ _ hc, fun i hi => ?_⟩, fun i hi => (h.sa.maps i hi).kept hp (map_cells (h.sa.maps i hi).block hc), h.sa.osb, h.sa.ow, h.sa.inj, h.sa.msg, fun i hi k x e => MV.kept (h.sa.vs i hi k x e) hp hF⟩, h.ra.kept hp hF (fun g eg => ?_), h.km, h.dis, fun i hi => Nat.lt_of_lt_of_le (h.olt i hi) hp.size, fun i hi => Nat.lt_of_lt_of_le (h.flt i hi) hp.size⟩, hp⟩
  · obtain ⟨ds, hd⟩ := h.p_cells e
    exact cells_cells_jo hd hc (by decide)
  · obtain ⟨h1, h2⟩ := hcs i hi
    have hlt := (Array.getElem?_eq_some_iff.1 h2).1
    rw [Array.getElem?_setIfInBounds, Array.getElem?_setIfInBounds, if_neg (by omega)]
    refine ⟨h1, ?_⟩
    show _ = some (Value.int .u16 (setN j.nx s x i))
    unfold setN
    by_cases e : i = s
    · subst e
      rw [if_pos rfl, if_pos hlt, if_pos rfl]
    · rw [if_neg (by omega), if_neg (by omega)]
      exact h2
  · obtain ⟨ds, fr, hd⟩ := h.v_cells eg
    exact cells_cells_jo hd hc (by decide)
theorem JA.delMsg (h : JA w G j o) (hk : KeysS j.st) {s : Nat} (hs : s < G.n) {k : Int} (hm : MapV w' 30 .u16 (G.wm s) (stc j.st s - if (wgV (G.gs s) k).isSome = true then 1 else 0) (delV (wgV (G.gs s)) k)) (hg : w.grownBy w' (some (G.wm s))) :
    JA w' { G with gs := fun i x => if i = s ∧ x = k then none else G.gs i x } { j with st := delS j.st s k } o ∧ Part (fun i => i = G.wm s) w w' := by
  have hp := part_grown hg
  have hF := h.notF (h.sa.ow s hs)
  have hmb := (h.sa.maps s hs).block
  obtain ⟨cs, hc, hcs⟩ := h.sa.row
  have hpa := h.pa.kept hp hF (fun e => h.km s hs e.symm) (fun n p e e' => by
    obtain ⟨ds, hd⟩ := h.p_cells e
    exact map_cells hmb hd e'.symm)
  have hra := h.ra.kept hp hF (fun g eg e' => by
    obtain ⟨ds, fr, hd⟩ := h.v_cells eg
    exact map_cells hmb hd e'.symm)
  refine ⟨⟨(hp.block _ (h.olt _ h.ob) fun e' => h.only_b.wm s hs e'.symm).trans h.blk, h.ob, h.n, ⟨hpa.map, hpa.ok, hpa.op, hpa.has, hpa.inj⟩, ⟨⟨cs, (hp.block _ (h.olt _ h.sa.osb) fun e' => map_cells hmb hc e'.symm).trans hc, hcs⟩, fun i hi => ?_, h.sa.osb, h.sa.ow, h.sa.inj, fun i hi x => ?_, fun i hi x u e => ?_⟩, ⟨hra.row, hra.own, hra.is, hra.vs⟩, h.km, h.dis, fun i hi => Nat.lt_of_lt_of_le (h.olt i hi) hp.size, fun i hi => Nat.lt_of_lt_of_le (h.flt i hi) hp.size⟩, hp⟩
  · show MapV w' _ _ (G.wm i) (stc (delS j.st s k) i) (wgV fun x => if i = s ∧ x = k then none else G.gs i x)
    rw [stc_del hk]
    by_cases e : i = s
    · subst e
      have e1 : (wgV (G.gs i) k).isSome = (hasS j.st i k).isSome := by
        rw [← h.sa.msg i hi k]
        unfold wgV
        simp
      rw [e1] at hm
      have e2 : (wgV fun x => if i = i ∧ x = k then none else G.gs i x) = delV (wgV (G.gs i)) k := by
        funext x
        by_cases e3 : x = k <;> simp [wgV, delV, e3]
      rw [e2]
      simp only [true_and]
      exact hm
    · have e2 : (wgV fun x => if i = s ∧ x = k then none else G.gs i x) = wgV (G.gs i) := by
        funext x
        simp [wgV, e]
      rw [if_neg (by omega), e2]
      exact (h.sa.maps i hi).kept hp fun c => e (h.sa.inj i s hi hs c)
  · show Option.map MX.msg (if i = s ∧ x = k then none else G.gs i x) = hasS (delS j.st s k) i x
    rw [hasS_del]
    by_cases e : i = s ∧ x = k
    · rw [if_pos e, if_pos (by omega)]; rfl
    · rw [if_neg e, if_neg (by omega)]
      exact h.sa.msg i hi x
  · have e : (if i = s ∧ x = k then none else G.gs i x) = some u := e
    by_cases e' : i = s ∧ x = k
    · rw [if_pos e'] at e; cases e
    · rw [if_neg e'] at e
      exact MV.kept (h.sa.vs i hi x u e) hp hF
theorem JA.putMsg (h : JA w G j o) {s : Nat} (hs : s < G.n) {k : Int} {x : MX} (hx : MV w x ∧ InF_jo G.F x.da.1) (hst : x.st = s) (hno : hasS j.st s k = none)
    (hm : MapV w' 30 .u16 (G.wm s) (if (wgV (G.gs s) k).isSome = true then stc j.st s else stc j.st s + 1) (putV (wgV (G.gs s)) k (.agg x.cells.toArray))) (hg : w.grownBy w' (some (G.wm s))) :
    JA w' { G with gs := fun i y => if i = s ∧ y = k then some x else G.gs i y } { j with st := (k, x.msg) :: j.st } o ∧ Part (fun i => i = G.wm s) w w' := by
  have hp := part_grown hg
  have hF := h.notF (h.sa.ow s hs)
  have hmb := (h.sa.maps s hs).block
  obtain ⟨cs, hc, hcs⟩ := h.sa.row
  have hpa := h.pa.kept hp hF (fun e => h.km s hs e.symm) (fun n p e e' => by
    obtain ⟨ds, hd⟩ := h.p_cells e
    exact map_cells hmb hd e'.symm)
  have hra := h.ra.kept hp hF (fun g eg e' => by
    obtain ⟨ds, fr, hd⟩ := h.v_cells eg
    exact map_cells hmb hd e'.symm)
  refine ⟨⟨(hp.block _ (h.olt _ h.ob) fun e' => h.only_b.wm s hs e'.symm).trans h.blk, h.ob, h.n, ⟨hpa.map, hpa.ok, hpa.op, hpa.has, hpa.inj⟩, ⟨⟨cs, (hp.block _ (h.olt _ h.sa.osb) fun e' => map_cells hmb hc e'.symm).trans hc, hcs⟩, fun i hi => ?_, h.sa.osb, h.sa.ow, h.sa.inj, fun i hi y => ?_, fun i hi y u e => ?_⟩, ⟨hra.row, hra.own, hra.is, hra.vs⟩, h.km, h.dis, fun i hi => Nat.lt_of_lt_of_le (h.olt i hi) hp.size, fun i hi => Nat.lt_of_lt_of_le (h.flt i hi) hp.size⟩, hp⟩
  · show MapV w' _ _ (G.wm i) (stc ((k, x.msg) :: j.st) i) (wgV fun y => if i = s ∧ y = k then some x else G.gs i y)
    rw [stc_cons, show x.msg.st = (s : Int) from hst]
    by_cases e : i = s
    · subst e
      have e1 : (wgV (G.gs i) k).isSome = (hasS j.st i k).isSome := by
        rw [← h.sa.msg i hi k]
        unfold wgV
        simp
      rw [e1, hno, if_neg (by simp)] at hm
      have e2 : (wgV fun y => if i = i ∧ y = k then some x else G.gs i y) = putV (wgV (G.gs i)) k (.agg x.cells.toArray) := by
        funext y
        by_cases e3 : y = k <;> simp [wgV, putV, e3]
      rw [e2, if_pos rfl]
      exact hm
    · have e2 : (wgV fun y => if i = s ∧ y = k then some x else G.gs i y) = wgV (G.gs i) := by
        funext y
        simp [wgV, e]
      rw [if_neg (by omega), e2]
      exact (h.sa.maps i hi).kept hp fun c => e (h.sa.inj i s hi hs c)
  · show Option.map MX.msg (if i = s ∧ y = k then some x else G.gs i y) = hasS ((k, x.msg) :: j.st) i y
    rw [hasS_cons, show x.msg.st = (s : Int) from hst]
    by_cases e : i = s ∧ y = k
    · rw [if_pos e, if_pos (by omega)]; rfl
    · rw [if_neg e, if_neg (by omega)]
      exact h.sa.msg i hi y
  · have e : (if i = s ∧ y = k then some x else G.gs i y) = some u := e
    by_cases e' : i = s ∧ y = k
    · rw [if_pos e'] at e
      injection e with e
      subst e
      exact MV.kept hx hp hF
    · rw [if_neg e'] at e
      exact MV.kept (h.sa.vs i hi y u e) hp hF
theorem JA.delPiece (h : JA w G j o) {n : Int} {l : List Ch} (hl : ∀ x, x ∈ l ↔ x ∈ j.ch ∧ x.a ≠ n) (hlen : l.length = j.ch.length - if (pgV G.pb n).isSome = true then 1 else 0)
    (hm : MapV w' 22 .u32 G.k (j.ch.length - if (pgV G.pb n).isSome = true then 1 else 0) (delV (pgV G.pb) n)) (hg : w.grownBy w' (some G.k)) :
    JA w' { G with pb := fun x => if x = n then none else G.pb x } { j with ch := l } o ∧ Part (fun i => i = G.k) w w' := by
  have hp := part_grown hg
  have hF := h.notF h.pa.ok
  have hmb := h.pa.map.block
  obtain ⟨cs, hc, hcs⟩ := h.sa.row
  have hsa := h.sa.kept hp hF (fun e => map_cells hmb hc e.symm) (fun i hi => h.km i hi)
  have hra := h.ra.kept hp hF (fun g eg e' => by
    obtain ⟨ds, fr, hd⟩ := h.v_cells eg
    exact map_cells hmb hd e'.symm)
  refine ⟨⟨(hp.block _ (h.olt _ h.ob) fun e' => h.only_b.k e').trans h.blk, h.ob, h.n, ⟨?_, h.pa.ok, fun m p e => ?_, fun x hx => ?_, fun m m' p e e' => ?_⟩, ⟨hsa.row, hsa.maps, hsa.osb, hsa.ow, hsa.inj, hsa.msg, hsa.vs⟩, ⟨hra.row, hra.own, hra.is, hra.vs⟩, h.km, h.dis, fun i hi => Nat.lt_of_lt_of_le (h.olt i hi) hp.size, fun i hi => Nat.lt_of_lt_of_le (h.flt i hi) hp.size⟩, hp⟩
  · show MapV w' _ _ G.k l.length (pgV fun x => if x = n then none else G.pb x)
    have e2 : (pgV fun x => if x = n then none else G.pb x) = delV (pgV G.pb) n := by
      funext x
      by_cases e : x = n <;> simp [pgV, delV, e]
    rw [e2, hlen]
    exact hm
  · have e : (if m = n then none else G.pb m) = some p := e
    by_cases hmn : m = n
    · rw [if_pos hmn] at e; cases e
    · rw [if_neg hmn] at e
      obtain ⟨a, b, c, d⟩ := h.pa.op m p e
      refine ⟨a, b.kept hp hF fun e' => map_cells hmb b.blk e'.symm, (hl _).2 ⟨c, ?_⟩, d⟩
      show (G.pc m).a ≠ n
      rw [d]
      exact hmn
  · obtain ⟨h1, h2⟩ := (hl x).1 hx
    obtain ⟨p, h3, h4⟩ := h.pa.has x h1
    exact ⟨p, by show (if x.a = n then none else G.pb x.a) = some p; rw [if_neg h2]; exact h3, h4⟩
  · have e : (if m = n then none else G.pb m) = some p := e
    have e' : (if m' = n then none else G.pb m') = some p := e'
    by_cases hmn : m = n
    · rw [if_pos hmn] at e; cases e
    · by_cases hmn' : m' = n
      · rw [if_pos hmn'] at e'; cases e'
      · rw [if_neg hmn] at e
        rw [if_neg hmn'] at e'
        exact h.pa.inj m m' p e e'
theorem JA.putPiece (h : JA w G j o) {p : Nat} {x : CX} {f : Int} (hx : PieceAt w G.F p x f) (hpo : ¬ G.O p) (hno : G.pb x.a = none)
    (hm : MapV w' 22 .u32 G.k (if (pgV G.pb x.a).isSome = true then j.ch.length else j.ch.length + 1) (putV (pgV G.pb) x.a (.pointer (some ⟨p, 0, none⟩)))) (hg : w.grownBy w' (some G.k)) (hpf : ¬ G.F p) :
    JA w' { G with pb := fun y => if y = x.a then some p else G.pb y, pc := fun y => if y = x.a then x else G.pc y, far := fun y => if y = x.a then f else G.far y, O := fun i => G.O i ∨ i = p } { j with ch := x.ch :: j.ch } o ∧ Part (fun i => i = G.k) w w' := by
  have hp := part_grown hg
  have hF := h.notF h.pa.ok
  have hmb := h.pa.map.block
  obtain ⟨cs, hc, hcs⟩ := h.sa.row
  have hsa := h.sa.kept hp hF (fun e => map_cells hmb hc e.symm) (fun i hi => h.km i hi)
  have hra := h.ra.kept hp hF (fun g eg e' => by
    obtain ⟨ds, fr, hd⟩ := h.v_cells eg
    exact map_cells hmb hd e'.symm)
  refine ⟨⟨(hp.block _ (h.olt _ h.ob) fun e' => h.only_b.k e').trans h.blk, .inl h.ob, h.n, ⟨?_, .inl h.pa.ok, fun m q e => ?_, fun y hy => ?_, fun m m' q e e' => ?_⟩, ⟨hsa.row, hsa.maps, .inl hsa.osb, fun i hi => .inl (hsa.ow i hi), hsa.inj, hsa.msg, hsa.vs⟩, ⟨hra.row, fun g e => .inl (hra.own g e), hra.is, hra.vs⟩, h.km, fun i hi => ?_, fun i hi => ?_, fun i hi => Nat.lt_of_lt_of_le (h.flt i hi) hp.size⟩, hp⟩
  · show MapV w' _ _ G.k (j.ch.length + 1) (pgV fun y => if y = x.a then some p else G.pb y)
    have e2 : (pgV fun y => if y = x.a then some p else G.pb y) = putV (pgV G.pb) x.a (.pointer (some ⟨p, 0, none⟩)) := by
      funext y
      by_cases e : y = x.a <;> simp [pgV, putV, e]
    have e3 : (pgV G.pb x.a).isSome = false := by unfold pgV; rw [hno]; rfl
    rw [e3, if_neg (by simp)] at hm
    rw [e2]
    exact hm
  · have e : (if m = x.a then some p else G.pb m) = some q := e
    show (G.O q ∨ q = p) ∧ PieceAt w' G.F q (if m = x.a then x else G.pc m) (if m = x.a then f else G.far m) ∧ (if m = x.a then x else G.pc m).ch ∈ x.ch :: j.ch ∧ (if m = x.a then x else G.pc m).a = m
    by_cases hmn : m = x.a
    · rw [if_pos hmn] at e
      injection e with e
      subst e
      rw [if_pos hmn, if_pos hmn]
      exact ⟨.inr rfl, hx.kept hp hF fun e' => map_cells hmb hx.blk e'.symm, List.mem_cons_self, hmn.symm⟩
    · rw [if_neg hmn] at e
      rw [if_neg hmn, if_neg hmn]
      obtain ⟨a, b, c, d⟩ := h.pa.op m q e
      exact ⟨.inl a, b.kept hp hF fun e' => map_cells hmb b.blk e'.symm, List.mem_cons_of_mem _ c, d⟩
  · show ∃ q, (if y.a = x.a then some p else G.pb y.a) = some q ∧ (if y.a = x.a then x else G.pc y.a).ch = y
    rcases List.mem_cons.1 hy with rfl | hy
    · exact ⟨p, if_pos rfl, by rw [if_pos (show x.ch.a = x.a from rfl)]⟩
    · obtain ⟨q, h3, h4⟩ := h.pa.has y hy
      have hne : y.a ≠ x.a := fun e => by rw [e, hno] at h3; cases h3
      exact ⟨q, by rw [if_neg hne]; exact h3, by rw [if_neg hne]; exact h4⟩
  · have e : (if m = x.a then some p else G.pb m) = some q := e
    have e' : (if m' = x.a then some p else G.pb m') = some q := e'
    by_cases hmn : m = x.a
    · by_cases hmn' : m' = x.a
      · rw [hmn, hmn']
      · rw [if_pos hmn] at e
        rw [if_neg hmn'] at e'
        injection e with e
        subst e
        exact absurd (h.pa.op m' _ e').1 hpo
    · by_cases hmn' : m' = x.a
      · rw [if_neg hmn] at e
        rw [if_pos hmn'] at e'
        injection e' with e'
        subst e'
        exact absurd (h.pa.op m _ e).1 hpo
      · rw [if_neg hmn] at e
        rw [if_neg hmn'] at e'
        exact h.pa.inj m m' q e e'
  · rcases hi with hi | rfl
    · exact h.dis i hi
    · exact hpf
  · rcases hi with hi | rfl
    · exact Nat.lt_of_lt_of_le (h.olt i hi) hp.size
    · exact Nat.lt_of_lt_of_le (Array.getElem?_eq_some_iff.1 hx.blk).1 hp.size
theorem JA.app (h : JA w G j o) {x : MX} (hx : MV w x ∧ InF_jo G.F x.da.1) {w1 : World} {v' : Value} {t : TypeId} {tmp : Array Value} (ho : w1.ownsRow 0 33 4 v' (G.rs.length + 1) (flatF MX.cells G.rs ++ x.cells)) (hg : (w.alloc (.cells tmp t)).grownBy w1 G.v.ownBlock)
    (hl : v'.ownBlock = G.v.ownBlock ∨ ∃ g, v'.ownBlock = some g ∧ w.heap.size ≤ g) :
    w1.cell? ⟨G.b, 2, none⟩ = some G.v ∧ w1.frozen? ⟨G.b, 2, none⟩ = false ∧
    JA (w1.setCell ⟨G.b, 2, none⟩ v') { G with v := v', rs := G.rs ++ [x], O := fun i => G.O i ∨ v'.ownBlock = some i } { j with rd := j.rd ++ [x.msg] } o ∧ Part (fun i => i = G.b ∨ G.v.ownBlock = some i) w (w1.setCell ⟨G.b, 2, none⟩ v') := by
  have hp1 : Part (fun i => G.v.ownBlock = some i) w w1 := (Part.of_below (fun i => G.v.ownBlock = some i) (below_lay w (.cells tmp t))).trans (Part.of_grown (S := fun i => G.v.ownBlock = some i) hg fun i hi => hi) fun i hi => .inl hi
  have hob := h.only_b
  have hb1 := (hp1.block _ (h.olt _ h.ob) fun e => hob.v _ e rfl).trans h.blk
  have hp2 := part_set_jo w1 G.b 2 v'
  have hp : Part (fun i => i = G.b ∨ G.v.ownBlock = some i) w (w1.setCell ⟨G.b, 2, none⟩ v') := hp1.mono (fun i hi => .inr hi) |>.trans hp2 fun i hi => .inl (.inl hi)
  have hF : ∀ i, G.F i → ¬ (i = G.b ∨ G.v.ownBlock = some i) := fun i hi hc => by
    rcases hc with rfl | hc
    · exact h.dis _ h.ob hi
    · exact h.dis _ (h.ra.own i hc) hi
  have hvb : ¬ v'.ownBlock = some G.b := fun e => by
    rcases hl with hl | ⟨g, hl, hge⟩
    · rw [hl] at e
      exact hob.v _ e rfl
    · rw [hl] at e
      injection e with e
      have := h.olt _ h.ob
      omega
  obtain ⟨cs, hc, hcs⟩ := h.sa.row
  have hpa := h.pa.kept hp hF (fun e => by
      rcases e with e | e
      · exact hob.k e.symm
      · obtain ⟨ds, fr, hd⟩ := h.v_cells e
        exact map_cells h.pa.map.block hd rfl) (fun n p e e' => by
      rcases e' with e' | e'
      · exact hob.p n p e e'
      · obtain ⟨ds, fr, hd⟩ := h.v_cells e'
        obtain ⟨ds', hd'⟩ := h.p_cells e
        exact cells_cells_jo hd hd' (by decide) rfl)
  have hsa := h.sa.kept hp hF (fun e => by
      rcases e with e | e
      · exact hob.sb e.symm
      · obtain ⟨ds, fr, hd⟩ := h.v_cells e
        exact cells_cells_jo hd hc (by decide) rfl) (fun i hi e => by
      rcases e with e | e
      · exact hob.wm i hi e
      · obtain ⟨ds, fr, hd⟩ := h.v_cells e
        exact map_cells (h.sa.maps i hi).block hd rfl)
  refine ⟨by rw [cell_of_row _ _ _ _ _ _ hb1]; rfl, by simp [World.frozen?, hb1], ⟨heap_setCell_same w1 G.b 2 _ _ _ hb1, .inl h.ob, h.n, ⟨hpa.map, .inl hpa.ok, fun n p e => ?_, hpa.has, hpa.inj⟩, ⟨hsa.row, hsa.maps, .inl hsa.osb, fun i hi => .inl (hsa.ow i hi), hsa.inj, hsa.msg, hsa.vs⟩, ⟨?_, fun g e => .inr e, ?_, fun y hy => ?_⟩, h.km, fun i hi => ?_, fun i hi => ?_, fun i hi => Nat.lt_of_lt_of_le (h.flt i hi) hp.size⟩, hp⟩
  · obtain ⟨a, b⟩ := hpa.op n p e
    exact ⟨.inl a, b⟩
  · show World.ownsRow _ 0 33 4 v' (G.rs ++ [x]).length (flatF MX.cells (G.rs ++ [x]))
    rw [flatF_append, List.length_append, show flatF MX.cells [x] = x.cells by simp [flatF], List.length_singleton]
    exact hp2.own ho fun g e e' => hvb (by rw [← e']; exact e)
  · show (G.rs ++ [x]).map MX.msg = j.rd ++ [x.msg]
    rw [List.map_append, h.ra.is]
    rfl
  · rcases List.mem_append.1 hy with hy | hy
    · exact MV.kept (h.ra.vs y hy) hp hF
    · rw [List.mem_singleton.1 hy]
      exact MV.kept hx hp hF
  · intro hFi
    rcases hi with hi | hi
    · exact h.dis i hi hFi
    · rcases hl with hl | ⟨g, hl, hge⟩
      · rw [hl] at hi
        exact h.dis i (h.ra.own i hi) hFi
      · rw [hl] at hi
        injection hi with hi
        have := h.flt i hFi
        omega
  · rcases hi with hi | hi
    · exact Nat.lt_of_lt_of_le (h.olt i hi) hp.size
    · have := (ho.lt i hi).2
      exact Nat.lt_of_lt_of_le this hp2.size
end
end
section
open Go.RowKit Go.Maps
section
variable {w w' : World} {G : Gh} {j : Jn} {o : Int}
theorem JA.c0 (h : JA w G j o) : w.cell? ⟨G.b, 0, none⟩ = some (.map (some G.k)) := by rw [cell_of_row _ _ _ _ _ _ h.blk]; rfl
theorem JA.c1 (h : JA w G j o) : w.cell? ⟨G.b, 1, none⟩ = some (.slice (some ⟨G.sb, 0, none⟩) G.n G.n) := by rw [cell_of_row _ _ _ _ _ _ h.blk]; rfl
theorem JA.c2 (h : JA w G j o) : w.cell? ⟨G.b, 2, none⟩ = some G.v := by rw [cell_of_row _ _ _ _ _ _ h.blk]; rfl
theorem JA.c3 (h : JA w G j o) : w.cell? ⟨G.b, 3, none⟩ = some (.int .i64 o) := by rw [cell_of_row _ _ _ _ _ _ h.blk]; rfl
theorem JA.fz (h : JA w G j o) (i : Nat) : w.frozen? ⟨G.b, i, none⟩ = false := by simp [World.frozen?, h.blk]
theorem JA.s0 (h : JA w G j o) {s : Nat} (hs : s < G.n) : w.cell? ⟨G.sb, s * 2, none⟩ = some (.map (some (G.wm s))) := by
  obtain ⟨cs, hc, hcs⟩ := h.sa.row
  rw [cell_of_row _ _ _ _ _ _ hc]
  exact (hcs s hs).1
theorem JA.s1 (h : JA w G j o) {s : Nat} (hs : s < G.n) : w.cell? ⟨G.sb, s * 2 + 1, none⟩ = some (.int .u16 (j.nx s)) := by
  obtain ⟨cs, hc, hcs⟩ := h.sa.row
  rw [cell_of_row _ _ _ _ _ _ hc]
  exact (hcs s hs).2
theorem JA.sfz (h : JA w G j o) (i : Nat) : w.frozen? ⟨G.sb, i, none⟩ = false := by
  obtain ⟨cs, hc, hcs⟩ := h.sa.row
  simp [World.frozen?, hc]
theorem wrap_small {x : Int} (h0 : 0 ≤ x) (h1 : x < 9223372036854775808) : IntKind.i64.wrap x = x := by
  simp [IntKind.wrap, IntKind.signed, IntKind.bits]
  omega
theorem find_ok (h : JA w G j o) (hn64 : G.n ≤ 64) {s : Nat} (hs : s < G.n) :
    Calls Tryz.prog 99 #[.pointer (some ⟨G.b, 0, none⟩), .int .u16 (s : Int)] w fun e w' => e = .returned (.pointer (some ⟨G.sb, s * 2, none⟩)) ∧ w = w' := by
  have c1 := h.c1
  have hlt : ¬ (G.n : Int) ≤ (s : Int) := by omega
  have hw := wrap_small (x := (s : Int)) (by omega) (by omega)
  clear h
  obtain ⟨b, k, sb, n, v, pb, pc, far, wm, gs, rs, O, F⟩ := G
  dsimp only at *
  go_enter Tryz.func99, Tryz.ntmps99
  go_wp2
  go_ret
  exact ⟨rfl, rfl⟩
theorem find_no (h : JA w G j o) (hn64 : G.n ≤ 64) {x : Int} (hx0 : 0 ≤ x) (hx1 : x < 65536) (hs : ¬ x < G.n) :
    Calls Tryz.prog 99 #[.pointer (some ⟨G.b, 0, none⟩), .int .u16 x] w fun e w' => e = .returned (.pointer none) ∧ w = w' := by
  have c1 := h.c1
  have hlt : (G.n : Int) ≤ x := by omega
  have hw := wrap_small (x := x) (by omega) (by omega)
  clear h
  obtain ⟨b, k, sb, n, v, pb, pc, far, wm, gs, rs, O, F⟩ := G
  dsimp only at *
  go_enter Tryz.func99, Tryz.ntmps99
  go_wp2
  go_ret
  exact ⟨rfl, rfl⟩
end
theorem Held_any {w : World} {G : Gh} {j : Jn} {o : Int} (h : JA w G j o) : Calls Tryz.prog 40 #[.pointer (some ⟨G.b, 0, none⟩)] w fun e w' => e = .returned (.int .i64 o) ∧ w = w' := by
  have c3 := h.c3
  clear h
  go_enter Tryz.func40, Tryz.ntmps40
  go_wp2
  go_ret
  exact ⟨rfl, rfl⟩
theorem zero_msg (w : World) : (zeroValue 33).run Tryz.prog w = .ok (.agg MX.zero.cells.toArray) w := by kernel_rfl
theorem msg_info : (Tryz.prog.info? 33).map (fun i => (i.zero, i.size, i.bytes)) = some (some (.agg #[.int .u16 0, .bool false, .int .u32 0, .slice none 0 0]), 4, 32) := by kernel_rfl
theorem wgV_at (G : Gh) (s : Nat) (k : Int) : wgV (G.gs s) k = (G.gs s k).map fun x => .agg x.cells.toArray := rfl
theorem same_set {w W : World} {g : Nat} {a : Addr} {v : Value} (h : W.heap[g]? = w.heap[g]?) (hne : g ≠ a.block) : (W.setCell a v).heap[g]? = w.heap[g]? := (heap_setCell_other W a g v hne).trans h
theorem same_lay {w W : World} {g : Nat} {o : Obj} (h : W.heap[g]? = w.heap[g]?) (hlt : g < W.heap.size) : (W.alloc o).heap[g]? = w.heap[g]? := ((below_lay W o).block g hlt).trans h
theorem rel_look {w : World} {G : Gh} {j : Jn} {o : Int} (h : JA w G j o) (hw : Wf j) {s : Nat} (hs : s < G.n) (W : World) (h1 : W.heap[G.sb]? = w.heap[G.sb]?) (h2 : W.heap[G.wm s]? = w.heap[G.wm s]?) :
    W.cell? ⟨G.sb, s * 2, none⟩ = some (.map (some (G.wm s))) ∧ W.cell? ⟨G.sb, s * 2 + 1, none⟩ = some (.int .u16 (j.nx s)) ∧
      (Instr.lookup 149 (.map (some (G.wm s))) (.int .u16 (j.nx s)) true).run Tryz.prog W = .ok (.tuple #[(wgV (G.gs s) (j.nx s)).getD (.agg MX.zero.cells.toArray), .bool (wgV (G.gs s) (j.nx s)).isSome]) W :=
  ⟨(World.cell?_of_block (a := ⟨G.sb, s * 2, none⟩) h1).trans (h.s0 hs), (World.cell?_of_block (a := ⟨G.sb, s * 2 + 1, none⟩) h1).trans (h.s1 hs), ((h.sa.maps s hs).same h2).look_ok Tryz.underlying30 Tryz.underlying149 (zero_msg _) (wf16 (hw.nx s).1 (hw.nx s).2)⟩
set_option maxHeartbeats 2000000 in
theorem release_none {w : World} {G : Gh} {j : Jn} {o : Int} (h : JA w G j o) (hw : Wf j) {s : Nat} (hs : s < G.n) (hno : hasS j.st s (j.nx s) = none) :
    Calls Tryz.prog 129 #[.pointer (some ⟨G.b, 0, none⟩), .pointer (some ⟨G.sb, s * 2, none⟩)] w fun e w' => e = .returned (.bool false) ∧ Below w.heap.size w w' := by
  have hlt := h.olt _ h.sa.osb
  have hltm := h.olt _ (h.sa.ow s hs)
  have hg : wgV (G.gs s) (j.nx s) = none := by
    have := h.sa.msg s hs (j.nx s)
    rw [hno] at this
    rw [wgV_at]
    cases hg : G.gs s (j.nx s) with
    | none => rfl
    | some x => rw [hg] at this; cases this
  have HR := rel_look h hw hs
  rw [hg] at HR
  dsimp only [Option.getD, Option.isSome, MX.zero, MX.cells] at HR
  obtain ⟨s0, s1, s2⟩ := HR w rfl rfl
  replace HR := keep HR
  clear h hno hg hw hs
  obtain ⟨b, k, sb, n, v, pb, pc, far, wm, gs, rs, O, F⟩ := G
  dsimp only at *
  generalize j.nx s = nx at *
  have hne : sb ≠ w.heap.size := by omega
  have hnm : wm s ≠ w.heap.size := by omega
  generalize wm s = wms at *
  go_enter Tryz.func129, Tryz.ntmps129
  go_wp2
  go_region_held3 (fun w' => w'.cell? ⟨sb, s * 2, none⟩ = some (.map (some wms)) ∧ w'.cell? ⟨sb, s * 2 + 1, none⟩ = some (.int .u16 nx) ∧ (Instr.lookup 149 (.map (some wms)) (.int .u16 nx) true).run Tryz.prog w' = .ok (.tuple #[.agg #[.int .u16 0, .bool false, .int .u32 0, .slice none 0 0], .bool false]) w')
    (first | exact HR.out _ rfl rfl | exact HR.out _ (same_lay rfl hlt) (same_lay rfl hltm) | exact HR.out _ (same_set (same_lay rfl hlt) hne) (same_set (same_lay rfl hltm) hnm))
    (first | fail)
  all_goals go_wp2
  all_goals (go_ret; exact ⟨rfl, by first | exact (below_lay w _).drew | exact (below_lay w _).drew.setCell (Nat.le_refl _) _ | exact ((below_lay w _).setCell (Nat.le_refl _) _).drew | exact (below_lay w _).setCell (Nat.le_refl _) _⟩)
end
end Go.Proofs.YtnlkdlnmffibhaaGreat
