/- SendqGives' walk. -/
import Derived.Test.YtbkepkiaabeliaaQ47
namespace Go.Proofs.Ytbkepkiaabeliaa
open Go.RowKit Go.Maps
set_option linter.unusedVariables false

theorem and15 (i : Int) : ∃ k : Nat, bits .and .i64 i 15 = (k : Int) ∧ k < 16 := by
  have h := and_i64 i 4 (by decide)
  refine ⟨(i % 16).toNat, ?_, by omega⟩
  rw [show ((2 ^ 4 - 1 : Nat) : Int) = 15 by decide] at h
  rw [h]
  omega
theorem mem_msg {w : World} {G : Gq} {q : Qm} (h : QA w G q) {e : En} (he : e ∈ q.es) : e.m < w.heap.size := h.olt _ (h.en e he).2.2.2
/-- The queue with both messages. -/
structure GvS (w : World) (b : Nat) (first : Int) (K : Nat) (u fl st ss : Int) (s : Int) (G : Gq) (q : Qm) (W : World) : Prop where
  qs : QS w b G q W
  gv : ∃ m1 m2 l x, GvQ K u fl st ss m1 m2 s q l x ∧ (s = 0 → q.mg m1 = ⟨u, -1, false⟩ ∧ q.mg m2 = ⟨-1, -1, false⟩)
  fl : flr q = (first - 1) % 4294967296
theorem gv_both {w W W2 : World} {b : Nat} {first u fl st ss : Int} {K m1 : Nat} {G : Gq} {new : List En} (hK : 0 < K) (hK2 : K ≤ 16) (h : QS w b G (pushQ (newQ first) new m1 u (-1)) W ∧ new.length = K ∧ (∀ e ∈ new, e.m = m1 ∧ e.st = 0 ∧ e.c.fl = fl ∧ e.c.ou = st ∧ e.c.si = ss)) (hz : ZV W2 (pz 5 (W.heap.size + 1))) (hb : Below W.heap.size W W2) :
    Calls Try.prog 18 #[.pointer (some ⟨b, 0, none⟩), .slice (some ⟨W2.heap.size, 0, none⟩) 1 1, .int .i64 (-1), .int .i64 (-1)] (W2.alloc (.cells (pz 5 (W.heap.size + 1)).cells.toArray 51)) fun e w' => e = .returned (.int .i64 0) ∧ ∃ G' q', Hid (GvS w b first K u fl st ss 0 G' q' w') := by
  obtain ⟨h1, h2, h3⟩ := h
  have hne : new ≠ [] := fun h0 => by rw [h0] at h2; simp at h2; omega
  have hm1 : m1 < W.heap.size := by
    obtain ⟨e, r, hr⟩ := List.exists_cons_of_ne_nil hne
    have he : e ∈ new := by rw [hr]; exact List.mem_cons_self ..
    have := mem_msg h1.qa (e := e) (show e ∈ (newQ first).es ++ new from List.mem_append_right _ he)
    rw [(h3 e he).1] at this
    exact this
  have hlen : (pushQ (newQ first) new m1 u (-1)).es.length = K := by
    show ([] ++ new).length = K
    rw [List.nil_append]
    exact h2
  refine (gv_push2 h1 hz hb (by decide) (by decide) (by rw [hlen]; omega)).mono ?_
  rintro e w' ⟨rfl, G', x, m2, hh⟩
  obtain ⟨a1, a2, a3, a4, a5⟩ := hh.out
  refine ⟨rfl, G', _, keep ⟨a1, ⟨m1, m2, new, x, ⟨?_, h2, by omega, a4, a3, a2, h3⟩, fun _ => ⟨?_, ?_⟩⟩, ?_⟩⟩
  · show ([] ++ new) ++ [x] = new ++ [x]
    rw [List.nil_append]
  · show (if m1 = m2 then _ else if m1 = m1 then _ else _) = _
    rw [if_neg (by omega), if_pos rfl]
  · show (if m2 = m2 then _ else _) = _
    rw [if_pos rfl]
  · rw [push_flr, push_flr]
    unfold flr newQ
    simp
theorem gv_exp1 {w W : World} {b : Nat} {first u fl st ss : Int} {K : Nat} {G : Gq} {q : Qm} (h : GvS w b first K u fl st ss 0 G q W) : Calls Try.prog 25 #[.pointer (some ⟨b, 0, none⟩), .int .i64 u] W fun e w' => e = .returned (.int .i64 0) ∧ Hid (GvS w b first K u fl st ss 0 G q w') := by
  obtain ⟨m1, m2, l, x, h1, h2⟩ := h.gv
  obtain ⟨a1, a2⟩ := h2 rfl
  obtain ⟨b1, b2⟩ := gv_early h1 a1 a2
  refine (Expire_qs h.qs u).mono ?_
  rintro e w' ⟨rfl, hh⟩
  rw [b1]
  refine ⟨rfl, keep ⟨?_, ⟨m1, m2, l, x, h1, h2⟩, h.fl⟩⟩
  have := hh.out.1
  rwa [b2] at this
theorem gv_exp2 {w W : World} {b : Nat} {first u fl st ss : Int} {K : Nat} {G : Gq} {q : Qm} (h : GvS w b first K u fl st ss 0 G q W) (hu : 0 ≤ u) (hK : 0 < K) : Calls Try.prog 25 #[.pointer (some ⟨b, 0, none⟩), .int .i64 (u + 1)] W fun e w' => e = .returned (.int .i64 1) ∧ ∃ q', Hid (GvS w b first K u fl st ss 4 G q' w') := by
  obtain ⟨m1, m2, l, x, h1, h2⟩ := h.gv
  obtain ⟨a1, a2⟩ := h2 rfl
  obtain ⟨b1, b2⟩ := gv_given h1 a1 a2 hu hK
  refine (Expire_qs h.qs (u + 1)).mono ?_
  rintro e w' ⟨rfl, hh⟩
  rw [b1]
  refine ⟨rfl, _, keep ⟨hh.out.1, ⟨m1, m2, _, x, b2, fun h => absurd h (by decide)⟩, ?_⟩⟩
  rw [← h.fl]
  unfold flr
  show (q.nx - ((q.es.map (gvE _)).length : Int) - 1) % 4294967296 = _
  rw [List.length_map]
/-- What Forward tells, and where it lies. -/
structure GvF (base : Nat) (o : Bool) (st ss : Int) (s : SL) (W : World) : Prop where
  row : W.ownsRow base 66 2 (.slice s.1 s.2.1 s.2.2) s.2.1 (flatF blC (if o = true then [(st, ss)] else []))
theorem GvF.sn {base : Nat} {o : Bool} {st ss : Int} {s : SL} {W : World} (h : GvF base o st ss s W) : s.2.1 = if o = true then 1 else 0 := by
  have h1 := h.row.1
  rw [flatF_len blC_len] at h1
  cases o <;> simp at h1 ⊢ <;> omega
theorem GvF.at_ {base : Nat} {st ss : Int} {s : SL} {W : World} (h : GvF base true st ss s W) : ∃ g, s.1 = some ⟨g, 0, none⟩ ∧ W.cell? ⟨g, 0, none⟩ = some (.int .u16 st) ∧ W.cell? ⟨g, 1, none⟩ = some (.int .u16 ss) := by
  obtain ⟨g, h1, _, h2, _⟩ := own_row_at h.row (by simp [flatF, blC])
  exact ⟨g, h1, h2 0 _ rfl, h2 1 _ rfl⟩
theorem gv_fwd {w W : World} {b : Nat} {first u fl st ss : Int} {K : Nat} {G : Gq} {q : Qm} {o : Bool} (h : GvS w b first K u fl st ss 4 G q W) (hK : 0 < K) (ho : (bits .and .u8 fl 4 == 0) = o) : Calls Try.prog 30 #[.pointer (some ⟨b, 0, none⟩)] W fun e w' => ∃ s1 s2 s3, e = .returned (.tuple #[.int .u32 ((first + (K : Int) - 1) % 4294967296), .slice s1 s2 s3, .bool true]) ∧ Hid (GvS w b first K u fl st ss 4 G q w' ∧ GvF W.heap.size o st ss (s1, s2, s3) w') := by
  obtain ⟨m1, m2, l, x, h1, h2⟩ := h.gv
  obtain ⟨c1, c2⟩ := gv_forward h1 hK h.qs.nu
  have hb := h.qs.gb
  have K1 := Forward_any h.qs.qa
  rw [hb, c1, c2, ho] at K1
  refine K1.mono ?_
  rintro e w' ⟨⟨s1, s2, s3⟩, rfl, d1, d2⟩
  refine ⟨s1, s2, s3, ?_, keep ⟨⟨h.qs.step d1, ⟨m1, m2, l, x, h1, h2⟩, h.fl⟩, ⟨own_mono d2 (by omega)⟩⟩⟩
  dsimp only
  rw [h.fl, show ((first - 1) % 4294967296 + (K : Int)) % 4294967296 = (first + (K : Int) - 1) % 4294967296 by omega]
theorem gv_tk {w W : World} {b : Nat} {first u fl st ss : Int} {K : Nat} {G : Gq} {q : Qm} (h : GvS w b first K u fl st ss 4 G q W) (hK2 : K ≤ 16) (now : Int) {base : Nat} {o : Bool} {s : SL} (hF : GvF base o st ss s W) (hbs : ∀ i, G.O i → i < base) : Calls Try.prog 19 #[.pointer (some ⟨b, 0, none⟩), .int .i64 now, .int .i64 1000] W fun e w' => ∃ gx cx, e = .returned (.slice (some ⟨gx, 0, none⟩) 1 cx) ∧ w'.cell? ⟨gx, 2, none⟩ = some (.int .u32 ((first + (K : Int)) % 4294967296)) ∧ Hid (Below w.heap.size w w' ∧ GvF base o st ss s w') := by
  obtain ⟨m1, m2, l, x, h1, h2⟩ := h.gv
  obtain ⟨c1, c2, c3⟩ := gv_take h1 now
  refine (Take_qs h.qs now 1000 (by decide)).mono ?_
  rintro e w' ⟨⟨s1, s2, s3⟩, ys, rfl, hh⟩
  obtain ⟨ht, hq2⟩ := hh.out
  have hrow := ht.row
  have hct := ht.ct
  rw [c1] at hct
  have hyl : ys.length = 1 := by have := congrArg List.length hct; simpa using this
  obtain ⟨y, rfl⟩ := List.length_eq_one_iff.1 hyl
  have hs2 : s2 = 1 := by
    have h3 := hrow.1
    rw [flatF_len CZ.len] at h3
    dsimp only at h3
    simp at h3
    omega
  subst hs2
  obtain ⟨gx, hg, _, hcx, _⟩ := own_row_at hrow (by simp [flatF, CZ.cells])
  dsimp only at hg
  subst hg
  simp only [List.map_cons, List.map_nil, List.cons.injEq, and_true] at hct
  have hya : y.a = (first + (K : Int)) % 4294967296 := by
    have e1 : y.a = x.c.a := congrArg Ct.a hct
    rw [e1, h.qs.nu K x c3, h.fl]
    omega
  refine ⟨gx, s3, rfl, ?_, keep ⟨hq2.bl, ⟨?_⟩⟩⟩
  · rw [← hya]
    exact hcx 2 (.int .u32 y.a) (by simp [flatF, CZ.cells])
  · exact ht.lt.part.own hF.row fun g hg hc => by
      have e1 := (hF.row.lt g hg).1
      have e2 := hbs g hc
      omega
set_option maxRecDepth 100000 in
set_option maxHeartbeats 4000000 in
theorem sendqGives_walk (first n stream ssn : Int) (free : Bool) (until_ : Int) (w : World) (hf : (Lit.int .u32 first).wf = true) (_ : (Lit.int .i64 n).wf = true) (hst : (Lit.int .u16 stream).wf = true) (hss : (Lit.int .u16 ssn).wf = true) (_ : (Lit.int .i64 until_).wf = true) :
    Calls Try.prog 7 #[.int .u32 first, .int .i64 n, .int .u16 stream, .int .u16 ssn, .bool free, .int .i64 until_] w fun e w' => e = .returned (.bool true) ∧ Below w.heap.size w w' := by
  have KA := keep (awake_any w)
  have HF2 := keep (show 0 ≤ first ∧ first < 4294967296 by
    simp [Lit.wf, IntKind.min, IntKind.max, IntKind.signed, IntKind.bits] at hf
    omega)
  have HST := keep (show 0 ≤ stream ∧ stream < 65536 by
    simp [Lit.wf, IntKind.min, IntKind.max, IntKind.signed, IntKind.bits] at hst
    omega)
  have HSS := keep (show 0 ≤ ssn ∧ ssn < 65536 by
    simp [Lit.wf, IntKind.min, IntKind.max, IntKind.signed, IntKind.bits] at hss
    omega)
  clear hf hst hss
  obtain ⟨k0, hk0, hk1⟩ := and15 n
  obtain ⟨u, hu, hu1⟩ := and65535 until_
  obtain ⟨i0, hi0, hz0, hz1, hz2⟩ := info_parts zchunk_info
  have KN := keep (fun W (hb : Below w.heap.size w W) => New_qs (w := w) first HF2.out hb)
  have KP := keep (fun W => piece_lit 5 (by decide) 5 rfl W)
  obtain ⟨K, hK⟩ : ∃ K, k0 + 1 = K := ⟨_, rfl⟩
  have hKI : 1 + (k0 : Int) = (K : Int) := by omega
  have HK := keep (show 0 < K ∧ K ≤ 16 by omega)
  have hK0 : (0 : Int) < (K : Int) := by omega
  have hK2 : (K : Int) ≤ 16 := by omega
  have hk00 : (0 : Int) ≤ (k0 : Int) := by omega
  have hk01 : (k0 : Int) ≤ 15 := by omega
  have HU := keep (show (0 : Int) ≤ (u : Int) ∧ (u : Int) < 65536 by omega)
  clear hK hk1 hu1
  cases free with
  | false =>
    go_enter Try.func7, Try.ntmps7
    go_wp2_with (first
      | (go_at_call 10; refine KA.out.mono ?_; rintro e w1 ⟨rfl, hb1⟩; replace hb1 := keep hb1)
      | (go_at_call 12; refine (KN.out _ hb1.out).mono ?_; rintro e w2 ⟨rfl, hq2⟩))
    obtain ⟨b, hb⟩ : ∃ b, w1.heap.size = b := ⟨_, rfl⟩
    rw [hb] at hq2 ⊢
    have I0 : Hid (GvL w2 0 stream ssn 0 (none, 0, 0) [] w2) := keep ⟨Below.refl _ _, rfl, World.ownsRow_nil _ _ _ _, fun y hy => (by cases hy)⟩
    clear hb
    go_loopw [17, 18, 19] (fun l i _ wr => ∃ (j : Nat) (s1 : Option Addr) (s2 s3 : Nat) (lst : List CZ), j ≤ K ∧ l = .slice s1 s2 s3 ∧ i = .int .i64 j ∧ Hid (GvL w2 0 stream ssn j (s1, s2, s3) lst wr)) (fun _ i _ _ => K - (intOf i).toNat)
    case atStart => exact ⟨0, none, 0, 0, [], Nat.zero_le _, rfl, rfl, I0⟩
    case round =>
      clear I0
      obtain ⟨j, s1, s2, s3, lst, hj, rfl, rfl, HR⟩ := hrel
      have hs2 : s2 = j := HR.out.sn
      subst hs2
      by_cases hlt : s2 < K
      · have HB3 := keep (show Below wr.heap.size wr (((wr.alloc (.cells #[.int .u8 7] 5)).alloc (.cells #[.int .u8 0, .int .u8 0, .int .u32 0, .int .u32 0, .int .u16 stream, .int .u16 ssn, .int .u32 0, .slice none 0 0, .slice none 0 0, .slice none 0 0, .slice none 0 0, .slice (some ⟨wr.heap.size, 0, none⟩) 1 1] 51)).alloc (.cells #[.int .u8 0, .int .u8 0, .int .u32 0, .int .u32 0, .int .u16 stream, .int .u16 ssn, .int .u32 0, .slice none 0 0, .slice none 0 0, .slice none 0 0, .slice none 0 0, .slice (some ⟨wr.heap.size, 0, none⟩) 1 1] 51)) from up (up (below_lay wr (.cells #[.int .u8 7] 5)) (below_lay _ (.cells #[.int .u8 0, .int .u8 0, .int .u32 0, .int .u32 0, .int .u16 stream, .int .u16 ssn, .int .u32 0, .slice none 0 0, .slice none 0 0, .slice none 0 0, .slice none 0 0, .slice (some ⟨wr.heap.size, 0, none⟩) 1 1] 51))) (below_lay _ (.cells #[.int .u8 0, .int .u8 0, .int .u32 0, .int .u32 0, .int .u16 stream, .int .u16 ssn, .int .u32 0, .slice none 0 0, .slice none 0 0, .slice none 0 0, .slice none 0 0, .slice (some ⟨wr.heap.size, 0, none⟩) 1 1] 51)))
        have HR3 := keep (show (((wr.alloc (.cells #[.int .u8 7] 5)).alloc (.cells #[.int .u8 0, .int .u8 0, .int .u32 0, .int .u32 0, .int .u16 stream, .int .u16 ssn, .int .u32 0, .slice none 0 0, .slice none 0 0, .slice none 0 0, .slice none 0 0, .slice (some ⟨wr.heap.size, 0, none⟩) 1 1] 51)).alloc (.cells #[.int .u8 0, .int .u8 0, .int .u32 0, .int .u32 0, .int .u16 stream, .int .u16 ssn, .int .u32 0, .slice none 0 0, .slice none 0 0, .slice none 0 0, .slice none 0 0, .slice (some ⟨wr.heap.size, 0, none⟩) 1 1] 51)).heap[wr.heap.size]? = some (.cells #[.int .u8 7] 5 (0, 0)) from below_new (below_new (heap_new_at rfl)))
        have HC3 := keep (show (((wr.alloc (.cells #[.int .u8 7] 5)).alloc (.cells #[.int .u8 0, .int .u8 0, .int .u32 0, .int .u32 0, .int .u16 stream, .int .u16 ssn, .int .u32 0, .slice none 0 0, .slice none 0 0, .slice none 0 0, .slice none 0 0, .slice (some ⟨wr.heap.size, 0, none⟩) 1 1] 51)).alloc (.cells #[.int .u8 0, .int .u8 0, .int .u32 0, .int .u32 0, .int .u16 stream, .int .u16 ssn, .int .u32 0, .slice none 0 0, .slice none 0 0, .slice none 0 0, .slice none 0 0, .slice (some ⟨wr.heap.size, 0, none⟩) 1 1] 51)).heap[wr.heap.size + 1 + 1]? = some (.cells (gz 0 stream ssn wr.heap.size).cells.toArray 51 (0, 0)) from heap_new_at (by simp))
        have HLW := keep (Nat.le_trans HR.out.bl.size HB3.out.size)
        go_wp2_with (at_builtin; refine wpl_appendK (S := 12) (by decide) rfl (.tmp 47) (.tmp 49) 31 rfl w2.heap.size 51 i0 _ Try.underlying31 hi0 hz0 hz1 rfl _ s2 (flatF CZ.cells lst) rfl (own_step HR.out.row HB3.out) (some ⟨wr.heap.size + 1 + 1, 0, none⟩) 1 1 (gz 0 stream ssn wr.heap.size).cells rfl rfl (SR.row HC3.out) (CZ.one _) (by have := HK.out; unfold maxLen; omega) (by rw [hz2]; have := HK.out; omega) HLW.out ?_
                     intro A5 c5 w5 ho5 hb5 hg5)
        go_roundw
        case rel => exact ⟨s2 + 1, A5, s2 + 1, c5, _, by omega, rfl, by go_num, keep (HR.out.app HB3.out HR3.out ho5.out hg5.out)⟩
        case measure => simp [intOf]; omega
      · obtain rfl : K = s2 := by omega
        have KU1 := keep (gv_push1 (u := (u : Int)) hq2.out HR.out HK.out.1 HK.out.2 (by decide) HST.out HSS.out)
        have hu3 : (u : Int) + 1 ≤ 65540 := by have := HU.out; omega
        have hu4 : (u : Int) + 2 ≤ 65540 := by have := HU.out; omega
        have hu0 : (0 : Int) ≤ (u : Int) := HU.out.1
        clear hlt hj
        go_wp2_with (first
          | (go_at_call 29; refine (KP.out _).mono ?_; rintro e w5 ⟨rfl, hz5, _, hb5⟩
             have KU2 := keep (gv_both HK.out.1 HK.out.2 H4.out hz5.out hb5.out))
          | (go_at_call 18; refine KU2.out.mono ?_; rintro e w6 ⟨rfl, G6, q6, H6⟩)
          | (go_at_call 18; refine KU1.out.mono ?_; rintro e w4 ⟨rfl, G4, new, m1, H4⟩)
          | (go_at_call 25; refine (gv_exp2 H7.out hu0 HK.out.1).mono ?_; rintro e w8 ⟨rfl, q8, H8⟩)
          | (go_at_call 25; refine (gv_exp1 H6.out).mono ?_; rintro e w7 ⟨rfl, H7⟩)
          | (go_at_call 30; refine (gv_fwd (o := true) H8.out HK.out.1 (by decide)).mono ?_; rintro e w9 ⟨t1, t2, t3, rfl, H9⟩)
          | (go_at_call 19; refine (gv_tk H9.out.1 HK.out.2 _ H9.out.2 (fun i hi => H8.out.qs.qa.olt i hi)).mono ?_; rintro e w10 ⟨gx, cx, rfl, x0, H10⟩
             obtain ⟨g0, rfl, y0, y1⟩ := H10.out.2.at_
             have hs2 : t2 = 1 := H10.out.2.sn
             subst hs2
             have HB := keep H10.out.1))
        all_goals go_ret
        all_goals exact ⟨rfl, HB.out⟩
  | true =>
    go_enter Try.func7, Try.ntmps7
    go_wp2_with (first
      | (go_at_call 10; refine KA.out.mono ?_; rintro e w1 ⟨rfl, hb1⟩; replace hb1 := keep hb1)
      | (go_at_call 12; refine (KN.out _ hb1.out).mono ?_; rintro e w2 ⟨rfl, hq2⟩))
    obtain ⟨b, hb⟩ : ∃ b, w1.heap.size = b := ⟨_, rfl⟩
    rw [hb] at hq2 ⊢
    have I0 : Hid (GvL w2 4 stream ssn 0 (none, 0, 0) [] w2) := keep ⟨Below.refl _ _, rfl, World.ownsRow_nil _ _ _ _, fun y hy => (by cases hy)⟩
    clear hb
    go_loopw [17, 18, 19] (fun l i _ wr => ∃ (j : Nat) (s1 : Option Addr) (s2 s3 : Nat) (lst : List CZ), j ≤ K ∧ l = .slice s1 s2 s3 ∧ i = .int .i64 j ∧ Hid (GvL w2 4 stream ssn j (s1, s2, s3) lst wr)) (fun _ i _ _ => K - (intOf i).toNat)
    case atStart => exact ⟨0, none, 0, 0, [], Nat.zero_le _, rfl, rfl, I0⟩
    case round =>
      clear I0
      obtain ⟨j, s1, s2, s3, lst, hj, rfl, rfl, HR⟩ := hrel
      have hs2 : s2 = j := HR.out.sn
      subst hs2
      by_cases hlt : s2 < K
      · have HB3 := keep (show Below wr.heap.size wr (((wr.alloc (.cells #[.int .u8 7] 5)).alloc (.cells #[.int .u8 0, .int .u8 4, .int .u32 0, .int .u32 0, .int .u16 stream, .int .u16 ssn, .int .u32 0, .slice none 0 0, .slice none 0 0, .slice none 0 0, .slice none 0 0, .slice (some ⟨wr.heap.size, 0, none⟩) 1 1] 51)).alloc (.cells #[.int .u8 0, .int .u8 4, .int .u32 0, .int .u32 0, .int .u16 stream, .int .u16 ssn, .int .u32 0, .slice none 0 0, .slice none 0 0, .slice none 0 0, .slice none 0 0, .slice (some ⟨wr.heap.size, 0, none⟩) 1 1] 51)) from up (up (below_lay wr (.cells #[.int .u8 7] 5)) (below_lay _ (.cells #[.int .u8 0, .int .u8 4, .int .u32 0, .int .u32 0, .int .u16 stream, .int .u16 ssn, .int .u32 0, .slice none 0 0, .slice none 0 0, .slice none 0 0, .slice none 0 0, .slice (some ⟨wr.heap.size, 0, none⟩) 1 1] 51))) (below_lay _ (.cells #[.int .u8 0, .int .u8 4, .int .u32 0, .int .u32 0, .int .u16 stream, .int .u16 ssn, .int .u32 0, .slice none 0 0, .slice none 0 0, .slice none 0 0, .slice none 0 0, .slice (some ⟨wr.heap.size, 0, none⟩) 1 1] 51)))
        have HR3 := keep (show (((wr.alloc (.cells #[.int .u8 7] 5)).alloc (.cells #[.int .u8 0, .int .u8 4, .int .u32 0, .int .u32 0, .int .u16 stream, .int .u16 ssn, .int .u32 0, .slice none 0 0, .slice none 0 0, .slice none 0 0, .slice none 0 0, .slice (some ⟨wr.heap.size, 0, none⟩) 1 1] 51)).alloc (.cells #[.int .u8 0, .int .u8 4, .int .u32 0, .int .u32 0, .int .u16 stream, .int .u16 ssn, .int .u32 0, .slice none 0 0, .slice none 0 0, .slice none 0 0, .slice none 0 0, .slice (some ⟨wr.heap.size, 0, none⟩) 1 1] 51)).heap[wr.heap.size]? = some (.cells #[.int .u8 7] 5 (0, 0)) from below_new (below_new (heap_new_at rfl)))
        have HC3 := keep (show (((wr.alloc (.cells #[.int .u8 7] 5)).alloc (.cells #[.int .u8 0, .int .u8 4, .int .u32 0, .int .u32 0, .int .u16 stream, .int .u16 ssn, .int .u32 0, .slice none 0 0, .slice none 0 0, .slice none 0 0, .slice none 0 0, .slice (some ⟨wr.heap.size, 0, none⟩) 1 1] 51)).alloc (.cells #[.int .u8 0, .int .u8 4, .int .u32 0, .int .u32 0, .int .u16 stream, .int .u16 ssn, .int .u32 0, .slice none 0 0, .slice none 0 0, .slice none 0 0, .slice none 0 0, .slice (some ⟨wr.heap.size, 0, none⟩) 1 1] 51)).heap[wr.heap.size + 1 + 1]? = some (.cells (gz 4 stream ssn wr.heap.size).cells.toArray 51 (0, 0)) from heap_new_at (by simp))
        have HLW := keep (Nat.le_trans HR.out.bl.size HB3.out.size)
        go_wp2_with (at_builtin; refine wpl_appendK (S := 12) (by decide) rfl (.tmp 47) (.tmp 49) 31 rfl w2.heap.size 51 i0 _ Try.underlying31 hi0 hz0 hz1 rfl _ s2 (flatF CZ.cells lst) rfl (own_step HR.out.row HB3.out) (some ⟨wr.heap.size + 1 + 1, 0, none⟩) 1 1 (gz 4 stream ssn wr.heap.size).cells rfl rfl (SR.row HC3.out) (CZ.one _) (by have := HK.out; unfold maxLen; omega) (by rw [hz2]; have := HK.out; omega) HLW.out ?_
                     intro A5 c5 w5 ho5 hb5 hg5)
        go_roundw
        case rel => exact ⟨s2 + 1, A5, s2 + 1, c5, _, by omega, rfl, by go_num, keep (HR.out.app HB3.out HR3.out ho5.out hg5.out)⟩
        case measure => simp [intOf]; omega
      · obtain rfl : K = s2 := by omega
        have KU1 := keep (gv_push1 (u := (u : Int)) hq2.out HR.out HK.out.1 HK.out.2 (by decide) HST.out HSS.out)
        have hu3 : (u : Int) + 1 ≤ 65540 := by have := HU.out; omega
        have hu4 : (u : Int) + 2 ≤ 65540 := by have := HU.out; omega
        have hu0 : (0 : Int) ≤ (u : Int) := HU.out.1
        clear hlt hj
        go_wp2_with (first
          | (go_at_call 29; refine (KP.out _).mono ?_; rintro e w5 ⟨rfl, hz5, _, hb5⟩
             have KU2 := keep (gv_both HK.out.1 HK.out.2 H4.out hz5.out hb5.out))
          | (go_at_call 18; refine KU2.out.mono ?_; rintro e w6 ⟨rfl, G6, q6, H6⟩)
          | (go_at_call 18; refine KU1.out.mono ?_; rintro e w4 ⟨rfl, G4, new, m1, H4⟩)
          | (go_at_call 25; refine (gv_exp2 H7.out hu0 HK.out.1).mono ?_; rintro e w8 ⟨rfl, q8, H8⟩)
          | (go_at_call 25; refine (gv_exp1 H6.out).mono ?_; rintro e w7 ⟨rfl, H7⟩)
          | (go_at_call 30; refine (gv_fwd (o := false) H8.out HK.out.1 (by decide)).mono ?_; rintro e w9 ⟨t1, t2, t3, rfl, H9⟩)
          | (go_at_call 19; refine (gv_tk H9.out.1 HK.out.2 _ H9.out.2 (fun i hi => H8.out.qs.qa.olt i hi)).mono ?_; rintro e w10 ⟨gx, cx, rfl, x0, H10⟩
             have hs2 : t2 = 0 := H10.out.2.sn
             subst hs2
             have HB := keep H10.out.1))
        all_goals go_ret
        all_goals exact ⟨rfl, HB.out⟩
end Go.Proofs.Ytbkepkiaabeliaa
