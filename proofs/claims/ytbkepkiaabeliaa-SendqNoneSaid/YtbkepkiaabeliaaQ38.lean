/- SendqAll, walked. -/
import Derived.Test.YtbkepkiaabeliaaQ37
import Derived.Test.YtbkepkiaabeliaaBls
namespace Go.Proofs.Ytbkepkiaabeliaa
open Go.RowKit Go.Maps
set_option linter.unusedVariables false

/-! ### A row of truth values of the call's own -/
def MetAt (w : World) (g : Nat) (bl : List Bool) : Prop := w.heap[g]? = some (.cells (bl.map Value.bool).toArray 4 (0, 0))
theorem MetAt.kept {S : Nat → Prop} {w w' : World} {g : Nat} {bl : List Bool} (h : MetAt w g bl) (hp : Part S w w') (hg : ¬ S g) : MetAt w' g bl := (hp.block g (Array.getElem?_eq_some_iff.1 h).1 hg).trans h
theorem MetAt.step {w w' : World} {g : Nat} {bl : List Bool} (h : MetAt w g bl) (hp : Below w.heap.size w w') : MetAt w' g bl := (hp.block g (Array.getElem?_eq_some_iff.1 h).1).trans h
theorem MetAt.cell {w : World} {g j : Nat} {bl : List Bool} {v : Bool} (h : MetAt w g bl) (hj : bl[j]? = some v) : w.cell? ⟨g, j, none⟩ = some (.bool v) := by
  rw [cell_of_row w g j _ _ _ h]
  simp [hj]
theorem MetAt.frozen {w : World} {g : Nat} {bl : List Bool} (h : MetAt w g bl) (j : Nat) : w.frozen? ⟨g, j, none⟩ = false := by simp [World.frozen?, show w.heap[g]? = _ from h]
theorem MetAt.set {w : World} {g : Nat} {bl : List Bool} (h : MetAt w g bl) (j : Nat) (v : Bool) : MetAt (w.setCell ⟨g, j, none⟩ (.bool v)) g (bl.set j v) := by
  have h' : w.heap[g]? = _ := h
  unfold MetAt World.setCell
  simp [Array.getElem?_modify, h', List.map_set]
theorem bool_info : (Try.prog.info? 4).map (fun i => (i.zero, i.size, i.bytes)) = some (some (.bool false), 1, 1) := by kernel_rfl
theorem all_info {P : Program} {t : TypeId} {z : Value} {n b : Nat} (h : (P.info? t).map (fun i => (i.zero, i.size, i.bytes)) = some (some z, n, b)) : ∃ i, P.info? t = some i ∧ i.zero = some z ∧ i.size = n ∧ i.bytes = b := by
  cases hi : P.info? t with
  | none => rw [hi] at h; cases h
  | some i =>
    rw [hi] at h
    simp only [Option.map_some, Option.some.injEq, Prod.mk.injEq] at h
    exact ⟨i, rfl, h.1, h.2.1, h.2.2⟩
/-! ### What holds between two turns -/
theorem QS.apart {w W W' : World} {b gb : Nat} {G : Gq} {q : Qm} (h : QS w b G q W) (hg : w.heap.size ≤ gb) (ho : ¬ G.O gb) (hf : ¬ G.F gb) (hp : Part (fun i => i = gb) W W') : QS w b G q W' :=
  ⟨h.qa.apart hp (fun i hi e => ho (by rw [← e]; exact hi)) (fun i hi e => hf (by rw [← e]; exact hi)), h.nu, h.gb, h.lo, h.bl.trans (hp.below h.bl.size fun i hi => by rw [hi]; exact hg)⟩
theorem Timeout_qs {w W : World} {b : Nat} {G : Gq} {q : Qm} (h : QS w b G q W) : Calls Try.prog 24 #[.pointer (some ⟨b, 0, none⟩)] W fun e w' => e = .returned (.int .i64 ((cnt1 q.es q.es.length : Nat) : Int)) ∧ Hid (QS w b G { q with es := q.es.map toutE } w' ∧ Part G.O W w') := by
  have hb := h.gb
  subst hb
  refine (Timeout_any h.qa).mono ?_
  rintro e w' ⟨rfl, h1, h2⟩
  refine ⟨rfl, keep ⟨h.ltr h1 (nums_of h.nu rfl ?_) h2, h2.part⟩⟩
  show (q.es.map toutE).map (fun e => e.c.a) = _
  rw [List.map_map]
  refine List.map_congr_left fun e _ => ?_
  show (toutE e).c.a = e.c.a
  unfold toutE
  split <;> rfl
structure AlI (w : World) (b gb : Nat) (first : Int) (k : Nat) (g : List Bool) (s : Int → Prop) (G : Gq) (q : Qm) (W : World) : Prop where
  qs : QS w b G q W
  no : ¬ G.O gb
  nf : ¬ G.F gb
  mt : MetAt W gb g
  gl : g.length = k
  ln : q.es.length = k - lead g
  fl : flr q = (first - 1 + (lead g : Int)) % 4294967296
  st : ∃ x, s x ∧ ∀ e ∈ q.es, e.st = x
  sz : ∀ e ∈ q.es, lenE e ≤ 31
theorem sum31 : ∀ {l : List En}, (∀ e ∈ l, lenE e ≤ 31) → (l.map lenE).sum ≤ 31 * l.length
  | [], _ => Nat.le_refl _
  | e :: r, h => by
    rw [List.map_cons, List.sum_cons, List.length_cons]
    have := h e (List.mem_cons_self ..)
    have := sum31 fun x hx => h x (List.mem_cons_of_mem _ hx)
    omega
theorem al_take {w W : World} {b gb k : Nat} {first : Int} {g : List Bool} {G : Gq} {q : Qm} (h : AlI w b gb first k g (fun x => x = 0 ∨ x = 2) G q W) (hk : k ≤ 31) (now : Int) :
    Calls Try.prog 19 #[.pointer (some ⟨b, 0, none⟩), .int .i64 now, .int .i64 1073741824] W fun e w' => ∃ t1 c, e = .returned (.slice t1 (k - lead g) c) ∧ Hid (∃ q1, AlI w b gb first k g (fun x => x = 1) G q1 w') ∧ Hid (∀ i, i < k - lead g → ∃ go o, t1 = some ⟨go, o, none⟩ ∧ ∀ W', Part (fun x => x = gb) w' W' → W'.cell? ⟨go, o + i * 12 + 2, none⟩ = some (.int .u32 ((first + ((lead g + i : Nat) : Int)) % 4294967296))) := by
  obtain ⟨x0, hx0, hst⟩ := h.st
  have hsum := sum31 h.sz
  have hln := h.ln
  have hT := take_all (q := q) (now := now) (room := 1073741824) (by rcases hx0 with rfl | rfl; exact .inl hst; exact .inr hst) (by omega)
  refine (Take_qs h.qs now 1073741824 (by decide)).mono ?_
  rintro e w' ⟨⟨t1, t2, t3⟩, ys, rfl, H⟩
  have hR2 : (takeQ q now 1073741824).2 = q.es.map En.c := by rw [hT]
  have hct := H.out.1.ct
  have hdl := H.out.1.dl
  rw [hR2] at hct hdl
  have hyl : ys.length = k - lead g := by
    have h1 := congrArg List.length hdl
    rw [List.length_map, List.length_map, List.length_map] at h1
    omega
  have hrow := H.out.1.row
  obtain rfl : t2 = k - lead g := by
    have h3 := hrow.1
    rw [flatF_len CZ.len] at h3
    dsimp only at h3
    omega
  have hq1 : tkQ q now 1073741824 = ⟨q.es.map (sendE now), q.nx, q.mg⟩ := by unfold tkQ; rw [hT]
  have hmt := h.mt.kept H.out.1.lt.part h.no
  have hgl := (Array.getElem?_eq_some_iff.1 h.mt).1
  refine ⟨t1, t3, rfl, keep ⟨_, H.out.2, h.no, h.nf, hmt, h.gl, ?_, ?_, ⟨1, rfl, ?_⟩, ?_⟩, keep fun i hi => ?_⟩
  · rw [hq1]
    show (q.es.map (sendE now)).length = _
    rw [List.length_map, hln]
  · rw [hq1, ← h.fl]
    unfold flr
    show (q.nx - ((q.es.map (sendE now)).length : Int) - 1) % 4294967296 = _
    rw [List.length_map]
  · rw [hq1]
    intro e he
    obtain ⟨x, _, rfl⟩ := List.mem_map.1 (show e ∈ q.es.map (sendE now) from he)
    rfl
  · rw [hq1]
    intro e he
    obtain ⟨x, hx, rfl⟩ := List.mem_map.1 (show e ∈ q.es.map (sendE now) from he)
    exact h.sz x hx
  · have hzs : ZS w' (t1, k - lead g, t3) ys := ⟨LR.of_own CZ.len (by decide) hrow, fun y hy => (H.out.1.zs y hy).1⟩
    obtain ⟨go, o, x, e1, _, e3, e4, _⟩ := hzs.at_ (j := i) hi
    have hxa : x.a = (first + ((lead g + i : Nat) : Int)) % 4294967296 := by
      have h1 := congrArg (fun l => l[i]?) hct
      rw [List.getElem?_map, e4, List.getElem?_map, List.getElem?_map] at h1
      cases hx : q.es[i]? with
      | none => rw [hx] at h1; cases h1
      | some e =>
        rw [hx] at h1
        injection h1 with h1
        have h2 : x.a = e.c.a := congrArg Ct.a h1
        rw [h2, h.qs.nu i e hx, h.fl]
        omega
    have hgo : go ≠ gb := by
      dsimp only at e1
      subst e1
      have := (hrow.lt go rfl).1
      omega
    refine ⟨go, o, e1, fun W' hp => ?_⟩
    rw [← hxa]
    exact (Kpt.of_part (ok := fun i => ¬ i = gb) hp fun _ h => h).cell hgo e3.2.2.1
theorem al_marks {w W W' : World} {b gb k : Nat} {first : Int} {g g' : List Bool} {s : Int → Prop} {G : Gq} {q : Qm} (h : AlI w b gb first k g s G q W) (hg : w.heap.size ≤ gb) (hp : Part (fun i => i = gb) W W') : QS w b G q W' := h.qs.apart hg h.no h.nf hp
theorem al_ack {w W W' : World} {b gb k : Nat} {first : Int} {g g' : List Bool} {G : Gq} {q : Qm} (h : AlI w b gb first k g (fun x => x = 1) G q W) (hk : k ≤ 31) (hg : w.heap.size ≤ gb) (hp : Part (fun i => i = gb) W W') (hm : MetAt W' gb g') (hl' : g'.length = k) (hle : lead g ≤ lead g') (c0 now : Int) (hc : c0 = (first - 1 + (lead g' : Int)) % 4294967296) :
    Calls Try.prog 23 #[.pointer (some ⟨b, 0, none⟩), .int .u32 c0, .slice none 0 0, .int .i64 now] W' fun e w' => ∃ by_ sa lo mo, e = .returned (.tuple #[.agg #[.int .i64 by_, .int .i64 sa, .bool lo, .bool mo], .bool true]) ∧ ∃ G' q', Hid (AlI w b gb first k g' (fun x => x = 1) G' q' w') := by
  obtain ⟨x0, rfl, hst⟩ := h.st
  have h1 := h.qs.apart hg h.no h.nf hp
  have hll := lead_le g'
  have hln := h.ln
  obtain ⟨a1, a2, a3⟩ := all_ack (q := q) (c0 := c0) hst (lead g' - lead g) (by omega) h.qs.qa.le (by rw [hc, h.fl]; omega)
  refine (Ack_qs h1 c0 now (by omega) (none, 0, 0) [] ⟨rfl, Nat.le_refl _, SR.nil _ _⟩ (.inr rfl) (Nat.zero_le _) (fun x hx => by cases hx) a1).mono ?_
  rintro e w' ⟨rfl, hh⟩
  refine ⟨_, _, _, _, rfl, _, _, keep ⟨hh.out.1, h.no, h.nf, hm.kept hh.out.2 h.no, hl', ?_, ?_, ⟨1, rfl, ?_⟩, ?_⟩⟩
  · show (ackE q c0 []).length = _
    rw [a2, List.length_drop]
    omega
  · rw [a3, hc]
  · intro e he
    have he : e ∈ ackE q c0 [] := he
    rw [a2] at he
    exact hst e (List.mem_of_mem_drop he)
  · intro e he
    have he : e ∈ ackE q c0 [] := he
    rw [a2] at he
    exact h.sz e (List.mem_of_mem_drop he)
theorem AlI.step {w W W' : World} {b gb k : Nat} {first : Int} {g : List Bool} {s : Int → Prop} {G : Gq} {q : Qm} (h : AlI w b gb first k g s G q W) (hb : Below W.heap.size W W') : AlI w b gb first k g s G q W' :=
  ⟨h.qs.step hb, h.no, h.nf, h.mt.step hb, h.gl, h.ln, h.fl, h.st, h.sz⟩
theorem al_tout {w W : World} {b gb k : Nat} {first : Int} {g : List Bool} {G : Gq} {q : Qm} (h : AlI w b gb first k g (fun x => x = 1) G q W) :
    Calls Try.prog 24 #[.pointer (some ⟨b, 0, none⟩)] W fun e w' => (∃ z, e = .returned (.int .i64 z)) ∧ ∃ q', Hid (AlI w b gb first k g (fun x => x = 0 ∨ x = 2) G q' w') := by
  obtain ⟨x0, rfl, hst⟩ := h.st
  refine (Timeout_qs h.qs).mono ?_
  rintro e w' ⟨rfl, hh⟩
  refine ⟨⟨_, rfl⟩, _, keep ⟨hh.out.1, h.no, h.nf, h.mt.kept hh.out.2 h.no, h.gl, ?_, ?_, ⟨2, .inr rfl, ?_⟩, ?_⟩⟩
  · show (q.es.map toutE).length = _
    rw [List.length_map]
    exact h.ln
  · rw [← h.fl]
    unfold flr
    show (q.nx - ((q.es.map toutE).length : Int) - 1) % 4294967296 = _
    rw [List.length_map]
  · intro e he
    obtain ⟨x, hx, rfl⟩ := List.mem_map.1 (show e ∈ q.es.map toutE from he)
    unfold toutE
    rw [if_pos (hst x hx)]
  · intro e he
    obtain ⟨x, hx, rfl⟩ := List.mem_map.1 (show e ∈ q.es.map toutE from he)
    have := h.sz x hx
    unfold toutE
    split
    · exact this
    · exact this
theorem lead_rep (k : Nat) : lead (List.replicate k false) = 0 := by cases k <;> rfl
theorem Left_qs {w W : World} {b : Nat} {G : Gq} {q : Qm} (h : QS w b G q W) {f : Nat} (hf : octs q.es [2, 0] = f) : Calls Try.prog 28 #[.pointer (some ⟨b, 0, none⟩)] W fun e w' => e = .returned (.int .i64 (f : Int)) ∧ Hid (Below W.heap.size W w') := by
  have hb := h.gb
  subst hb hf
  exact (Left_any h.qa).mono fun e w' hh => ⟨hh.1, hh.2⟩
structure AlP (w : World) (b : Nat) (first : Int) (j : Nat) (G : Gq) (q : Qm) (W : World) : Prop where
  qs : QS w b G q W
  ln : q.es.length = j
  st : ∀ e ∈ q.es, e.st = 0
  fl : flr q = (first - 1) % 4294967296
  sz : ∀ e ∈ q.es, lenE e ≤ 31
structure AlM (b gb : Nat) (g : List Bool) (w6 : World) (W : World) : Prop where
  mt : MetAt W gb g
  pt : Part (fun i => i = gb) w6 W
theorem AlM.mark {b gb d a : Nat} {lost g : List Bool} {w6 W : World} (h : AlM b gb g w6 W) (hl : lost.getD a false = false) : AlM b gb (mk1 lost a d g) w6 (W.setCell ⟨gb, d, none⟩ (.bool true)) := by
  have : mk1 lost a d g = g.set d true := by unfold mk1; rw [if_neg (by rw [hl]; decide)]
  rw [this]
  exact ⟨h.mt.set d true, h.pt.trans (part_set W gb d _) fun i hi => .inl hi⟩
theorem AlM.pass {b gb d a : Nat} {lost g : List Bool} {w6 W : World} (h : AlM b gb g w6 W) (hl : lost.getD a false = true) : AlM b gb (mk1 lost a d g) w6 W := by
  have : mk1 lost a d g = g := by unfold mk1; rw [if_pos hl]
  rw [this]
  exact h
set_option maxRecDepth 100000 in
set_option maxHeartbeats 4000000 in
theorem sendqAll_walk (first n : Int) (A : Option Addr) (m c : Nat) (bl : List Bool) (w : World) (hf : (Lit.int .u32 first).wf = true) (_ : (Lit.int .i64 n).wf = true) (hz : LS w A m c bl) :
    Calls Try.prog 6 #[.int .u32 first, .int .i64 n, .slice A m c] w fun e w' => e = .returned (.bool true) ∧ Below w.heap.size w w' := by
  have KA := keep (awake_any w)
  have HZ := keep hz
  have HF2 := keep (show 0 ≤ first ∧ first < 4294967296 by
    simp [Lit.wf, IntKind.min, IntKind.max, IntKind.signed, IntKind.bits] at hf
    omega)
  clear hz hf
  by_cases hbig : 300 < m
  · go_enter Try.func6, Try.ntmps6
    go_wp2_with (go_at_call 10; refine KA.out.mono ?_; rintro e w1 ⟨rfl, hb1⟩; replace hb1 := keep hb1)
    go_ret
    exact ⟨rfl, hb1.out⟩
  · have hm300 : m ≤ 300 := by omega
    obtain ⟨k, hk, hk2⟩ := and31 n
    obtain ⟨i0, hi0, hz0, hzz, hz2'⟩ := all_info bool_info
    have KN := keep (fun W (hb : Below w.heap.size w W) => New_qs (w := w) first HF2.out hb)
    have hk0 : (0 : Int) ≤ (k : Int) := by omega
    have hk3 : (k : Int) < 32 := by omega
    have HK2 := keep hk2
    clear hk2
    go_enter Try.func6, Try.ntmps6
    go_wp2_with (first
      | (go_at_call 10; refine KA.out.mono ?_; rintro e w1 ⟨rfl, hb1⟩; replace hb1 := keep hb1)
      | (go_at_call 12; refine (KN.out _ hb1.out).mono ?_; rintro e w2 ⟨rfl, hq2⟩))
    obtain ⟨b, hb⟩ : ∃ b, w1.heap.size = b := ⟨_, rfl⟩
    rw [hb] at hq2 ⊢
    have I0 : Hid (AlP w b first 0 (newG b) (newQ first) w2) := keep ⟨hq2.out, rfl, fun e he => (by cases he), (by unfold flr newQ; simp), fun e he => (by cases he)⟩
    clear hb hq2
    go_loopw [10] (fun i wr => ∃ (j : Nat) (G : Gq) (q : Qm), j ≤ k ∧ i = .int .i64 j ∧ Hid (AlP w b first j G q wr)) (fun i _ => k - (intOf i).toNat)
    case atStart => exact ⟨0, _, _, Nat.zero_le _, rfl, I0⟩
    case round =>
      clear I0
      obtain ⟨j, G, q, hj, rfl, HR⟩ := hrel
      by_cases hlt : j < k
      · have KP := keep (fun W => piece_lit (1 + j) (by have := HK2.out; omega) (1 + (j : Int)) (by omega) W)
        go_wp2_with (first
          | (go_at_call 29; refine (KP.out _).mono ?_; rintro e w3 ⟨rfl, hz3, _, hb3⟩
             have KU := keep (rm_push HR.out.qs hz3.out hb3.out (by omega) (by have := HK2.out; omega) (by rw [HR.out.ln]; have := HK2.out; omega)))
          | (go_at_call 18; refine KU.out.mono ?_; rintro e w5 ⟨rfl, G', x, mm, H5⟩))
        go_roundw
        case rel =>
          refine ⟨j + 1, G', pushQ q [x] mm (-1) (-1), by omega, by go_num, keep ⟨H5.out.1, ?_, ?_, ?_, ?_⟩⟩
          · show (q.es ++ [x]).length = j + 1
            rw [List.length_append, HR.out.ln]
            rfl
          · intro e he
            rcases List.mem_append.1 (show e ∈ q.es ++ [x] from he) with he | he
            · exact HR.out.st e he
            · rw [List.mem_singleton.1 he]
              exact H5.out.2.2.1
          · rw [push_flr]
            exact HR.out.fl
          · intro e he
            rcases List.mem_append.1 (show e ∈ q.es ++ [x] from he) with he | he
            · exact HR.out.sz e he
            · rw [List.mem_singleton.1 he, H5.out.2.1]
              have := HK2.out
              omega
        case measure => simp [intOf]; omega
      · obtain rfl : k = j := by omega
        go_wp2_with (at_make; refine wpl_make rfl (.tmp 41) (.tmp 41) 61 rfl 4 i0 (.bool false) Try.underlying61 hi0 hz0 hzz rfl k _ rfl rfl rfl (by rw [hz2']; omega) (by unfold maxLen; omega) ?_; intro w3 hg3 hb3 hs3)
        have I3 : Hid (AlI w b wr.heap.size first k (List.replicate k false) (fun x => x = 0 ∨ x = 2) G q w3) := keep ⟨HR.out.qs.step hb3, fun ho => absurd (HR.out.qs.qa.olt _ ho) (Nat.lt_irrefl _), fun ho => absurd (HR.out.qs.qa.flt _ ho) (Nat.lt_irrefl _), by unfold MetAt; rw [List.map_replicate]; exact hg3.out, List.length_replicate, by rw [lead_rep]; exact HR.out.ln, by rw [lead_rep, HR.out.fl]; simp, ⟨0, .inl rfl, HR.out.st⟩, HR.out.sz⟩
        have HGZ := keep HR.out.qs.bl.size
        obtain ⟨gb, hgb⟩ : ∃ gb, wr.heap.size = gb := ⟨_, rfl⟩
        rw [hgb] at I3 HGZ ⊢
        clear hgb hg3 hb3 hs3 HR hlt hj KN
        go_loopw [12, 13, 14, 15, 16, 17, 18, 19] (fun at_ turn _ _ _ _ _ _ wr => ∃ (a t : Nat) (g : List Bool) (G : Gq) (q : Qm), at_ = .int .i64 a ∧ turn = .int .i64 t ∧ Hid (a ≤ 31 * t ∧ t ≤ lead g + min a m) ∧ Hid (AlI w b gb first k g (fun x => x = 0 ∨ x = 2) G q wr)) (fun _ turn _ _ _ _ _ _ _ => 400 - (intOf turn).toNat)
        case atStart => exact ⟨0, 0, _, _, _, rfl, rfl, keep ⟨by omega, by omega⟩, I3⟩
        case round =>
          clear I3
          obtain ⟨a, t, g, G, q, rfl, rfl, HAT, HI⟩ := hrel
          obtain ⟨nn, hnn⟩ : ∃ nn, k - lead g = nn := ⟨_, rfl⟩
          have HNN := keep hnn
          have KL := keep (Len_qs HI.out.qs (n := nn) (HI.out.ln.trans hnn))
          have hgl := lead_le g
          rw [HI.out.gl] at hgl
          have HGL := keep hgl
          have ht : (t : Int) ≤ 331 := by have := HAT.out; omega
          have ha : (a : Int) ≤ 12000 := by have := HAT.out; omega
          have ht0 : (0 : Int) ≤ (t : Int) := by omega
          have ha0 : (0 : Int) ≤ (a : Int) := by omega
          clear hgl hnn
          by_cases h0 : 0 < nn
          · have h0i : (0 : Int) < (nn : Int) := by omega
            have KT := al_take HI.out (by have := HK2.out; omega) (t : Int)
            rw [HNN.out] at KT
            replace KT := keep KT
            go_wp2_with (first
              | (go_at_call 17; refine KL.out.mono ?_; rintro e w' ⟨rfl, rfl⟩)
              | (go_at_call 19; refine KT.out.mono ?_; rintro e w6 ⟨t1, cc, rfl, H6, HC⟩))
            obtain ⟨q1, hq1⟩ := H6.out
            have H6 := keep hq1
            have HM0 := keep (show AlM b gb (mks bl a (lead g) g 0) w6 w6 from ⟨hq1.mt, Part.refl _ _⟩)
            clear hq1
            go_loopw [12, 15, 16] (fun at_ i _ wr2 => ∃ (j : Nat), j ≤ nn ∧ i = .int .i64 j ∧ at_ = .int .i64 ((a + j : Nat) : Int) ∧ Hid (AlM b gb (mks bl a (lead g) g j) w6 wr2)) (fun _ i _ _ => nn - (intOf i).toNat)
            case atStart => exact ⟨0, Nat.zero_le _, rfl, rfl, HM0⟩
            case round =>
              clear HM0
              obtain ⟨j, hj, rfl, rfl, HM⟩ := hrel
              by_cases hlt : j < nn
              · obtain ⟨go, o, rfl, hcell⟩ := HC.out j hlt
                have hc2 := hcell _ HM.out.pt
                have hbw := (H6.out.qs.apart HGZ.out H6.out.no H6.out.nf HM.out.pt).bl
                obtain ⟨d, hd⟩ : ∃ d, lead g + j = d := ⟨_, rfl⟩
                have hdk : d < k := by have := HNN.out; have := HGL.out; omega
                obtain ⟨p, hp⟩ : ∃ p, a + j = p := ⟨_, rfl⟩
                have hdi : dist32 first ((first + (d : Int)) % 4294967296) = (d : Int) := dist_of _ _ d (by have := HK2.out; omega) rfl
                rw [hd] at hc2
                obtain ⟨y, hy⟩ : ∃ y, (first + (d : Int)) % 4294967296 = y := ⟨_, rfl⟩
                rw [hy] at hc2 hdi
                have KD := keep (fun W => Dist_any first y W)
                rw [hdi] at KD
                have hdl : d < (mks bl a (lead g) g j).length := by rw [mks_len, HI.out.gl]; exact hdk
                obtain ⟨old, hold⟩ : ∃ old, (mks bl a (lead g) g j)[d]? = some old := ⟨_, List.getElem?_eq_getElem hdl⟩
                have hcg := HM.out.mt.cell hold
                have hfg := HM.out.mt.frozen d
                have hmk : mks bl a (lead g) g (j + 1) = mk1 bl p d (mks bl a (lead g) g j) := by rw [mks, hd, hp]
                have HMK := keep hmk
                have HPP := keep hp
                have hd0 : (0 : Int) ≤ (d : Int) := by omega
                have hd1 : (d : Int) < (k : Int) := by omega
                have hp0 : (0 : Int) ≤ (p : Int) := by omega
                have hjb : (j : Int) ≤ 40 := by have := HK2.out; have := HNN.out; omega
                have hp1 : (p : Int) ≤ 13000 := by have := HK2.out; have := HNN.out; omega
                rw [hp]
                clear hcell hd hdk hp hdi hy hdl hmk hold
                by_cases hL : p < m
                · obtain ⟨b0, o0, v, rfl, hb0, hcv, hgv⟩ := (HZ.out.step hbw).at_ hL
                  have HGV := keep hgv
                  clear hbw hgv
                  cases v with
                  | true =>
                    go_wp2_with (go_at_call 26; refine (KD.out _).mono ?_; rintro e w' ⟨rfl, rfl⟩)
                    go_roundw
                    case rel => exact ⟨j + 1, by omega, by go_num, by rw [← HPP.out]; go_num, keep (by rw [HMK.out]; exact HM.out.pass HGV.out)⟩
                    case measure => simp [intOf]; omega
                  | false =>
                    go_wp2_with (go_at_call 26; refine (KD.out _).mono ?_; rintro e w' ⟨rfl, rfl⟩)
                    go_roundw
                    case rel => exact ⟨j + 1, by omega, by go_num, by rw [← HPP.out]; go_num, keep (by rw [HMK.out]; exact HM.out.mark HGV.out)⟩
                    case measure => simp [intOf]; omega
                · have HGV := keep (show bl.getD p false = false by
                    rw [List.getD_eq_getElem?_getD, List.getElem?_eq_none (by have := HZ.out.1; omega)]
                    rfl)
                  have hLi : (m : Int) < (p : Int) + 1 := by omega
                  clear hbw
                  go_wp2_with (go_at_call 26; refine (KD.out _).mono ?_; rintro e w' ⟨rfl, rfl⟩)
                  go_roundw
                  case rel => exact ⟨j + 1, by omega, by go_num, by rw [← HPP.out]; go_num, keep (by rw [HMK.out]; exact HM.out.mark HGV.out)⟩
                  case measure => simp [intOf]; omega
              · obtain rfl : nn = j := by omega
                have hgl2 : (mks bl a (lead g) g nn).length = k := by rw [mks_len]; exact HI.out.gl
                obtain ⟨T1, T2⟩ := turn_more (lost := bl) (a := a) (i := nn) (g := g) (c := lead g) rfl (by rw [HI.out.gl]; have := HNN.out; omega) h0
                rw [← HZ.out.1] at T2
                have HT := keep (And.intro hgl2 (And.intro T1 T2))
                have hle2 := lead_le (mks bl a (lead g) g nn)
                rw [hgl2] at hle2
                clear hgl2 T1 T2 HC KT
                generalize mks bl a (lead g) g nn = g' at *
                obtain ⟨lg, hlg⟩ : ∃ lg, lead g' = lg := ⟨_, rfl⟩
                have HLG := keep hlg
                rw [hlg] at hle2
                have hget : ∀ j, j < lg → _ := fun j hj => HM.out.mt.cell (lead_get (g := g') (by rw [hlg]; exact hj))
                have hgat : lg < k → _ := fun h => HM.out.mt.cell (lead_at (g := g') (by rw [HT.out.1, hlg]; exact h))
                rw [hlg] at hgat
                have HGET := keep hget
                have HGAT := keep hgat
                have hlg1 : (lg : Int) ≤ (k : Int) := by omega
                clear hget hgat hlg hlt hj
                rename World => ws
                go_wp2
                go_loopw [17] (fun i wr3 => ∃ (j : Nat), j ≤ lg ∧ i = .int .i64 j ∧ wr3 = ws) (fun i _ => lg - (intOf i).toNat)
                case atStart => exact ⟨0, Nat.zero_le _, rfl, rfl⟩
                case round =>
                  obtain ⟨j, hj, rfl, rfl⟩ := hrel
                  by_cases hlt : j < lg
                  · have hcj := HGET.out j hlt
                    have hjk : (j : Int) < (k : Int) := by omega
                    have hj0 : (0 : Int) ≤ (j : Int) := by omega
                    go_wp2
                    go_roundw
                    case rel => exact ⟨j + 1, by omega, by go_num, by first | rfl | trivial⟩
                    case measure => simp [intOf]; omega
                  · obtain rfl : lg = j := by omega
                    by_cases hlk : lg < k
                    · have hcj := HGAT.out hlk
                      have hjk : (lg : Int) < (k : Int) := by omega
                      have hj0 : (0 : Int) ≤ (lg : Int) := by omega
                      go_wp2_with fail
                      refine (al_ack (g' := g') H6.out (by have := HK2.out; omega) HGZ.out HM.out.pt HM.out.mt HT.out.1 HT.out.2.1 _ (t : Int) (by rw [HLG.out]; congr 1; omega)).mono ?_
                      rintro e w7 ⟨by_, sa, lo, mo, rfl, G2, q2, H7⟩
                      dsimp only
                      have H8 := keep (H7.out.step (below_lay w7 (.cells #[.int .i64 by_, .int .i64 sa, .bool lo, .bool mo] 54)))
                      go_wp2_with (go_at_call 24; refine (al_tout H8.out).mono ?_; rintro e w9 ⟨⟨z, rfl⟩, q3, H9⟩)
                      go_roundw
                      case rel => exact ⟨a + nn, t + 1, g', G2, q3, rfl, by go_num, keep ⟨by have := HAT.out; have := HK2.out; have := HNN.out; omega, by have := HAT.out; have := HT.out.2.2; omega⟩, H9⟩
                      case measure => simp [intOf]; omega
                    · have hjk : (lg : Int) = (k : Int) := by omega
                      go_wp2_with fail
                      refine (al_ack (g' := g') H6.out (by have := HK2.out; omega) HGZ.out HM.out.pt HM.out.mt HT.out.1 HT.out.2.1 _ (t : Int) (by rw [HLG.out]; congr 1; omega)).mono ?_
                      rintro e w7 ⟨by_, sa, lo, mo, rfl, G2, q2, H7⟩
                      dsimp only
                      have H8 := keep (H7.out.step (below_lay w7 (.cells #[.int .i64 by_, .int .i64 sa, .bool lo, .bool mo] 54)))
                      go_wp2_with (go_at_call 24; refine (al_tout H8.out).mono ?_; rintro e w9 ⟨⟨z, rfl⟩, q3, H9⟩)
                      go_roundw
                      case rel => exact ⟨a + nn, t + 1, g', G2, q3, rfl, by go_num, keep ⟨by have := HAT.out; have := HK2.out; have := HNN.out; omega, by have := HAT.out; have := HT.out.2.2; omega⟩, H9⟩
                      case measure => simp [intOf]; omega
          · obtain rfl : nn = 0 := by omega
            have hes : q.es = [] := List.eq_nil_of_length_eq_zero (HI.out.ln.trans HNN.out)
            have KF := keep (fun W (hb : Below wr.heap.size wr W) => Flying_qs (HI.out.qs.step hb) (f := 0) (by rw [hes]; rfl))
            have KE := keep (fun W (hb : Below wr.heap.size wr W) => Left_qs (HI.out.qs.step hb) (f := 0) (by rw [hes]; rfl))
            have KO := keep (fun W (hb : Below wr.heap.size wr W) => Floor_qs (HI.out.qs.step hb) (f := (first + (k : Int) - 1) % 4294967296) (by
              have h1 := HNN.out
              have h2 := HGL.out
              rw [HI.out.fl]
              congr 1
              omega))
            have HBL := keep HI.out.qs.bl
            clear hes h0
            go_wp2_with (first
              | (go_at_call 17; refine KL.out.mono ?_; rintro e w' ⟨rfl, rfl⟩)
              | (go_at_call 27; refine (KF.out _ (Below.refl _ _)).mono ?_; rintro e w7 ⟨rfl, hb7⟩)
              | (go_at_call 28; refine (KE.out _ hb7.out).mono ?_; rintro e w8 ⟨rfl, hb8⟩; replace hb8 := keep (up hb7.out hb8.out))
              | (go_at_call 16; refine (KO.out _ hb8.out).mono ?_; rintro e w9 ⟨rfl, hb9⟩; replace hb9 := keep (up hb8.out hb9.out)))
            go_ret
            exact ⟨by simp, HBL.out.trans (hb9.out.mono HBL.out.size)⟩
end Go.Proofs.Ytbkepkiaabeliaa
