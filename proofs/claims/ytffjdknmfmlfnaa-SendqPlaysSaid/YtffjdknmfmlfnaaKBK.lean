/- KBK of the stage: texts R5, R6, R7, joined. -/
import Derived.Test.YtffjdknmfmlfnaaKBJ
import Derived.Test.YtffjdknmfmlfnaaKAW
set_option linter.unusedSimpArgs false
set_option linter.unusedVariables false
namespace Go.Proofs.Ytffjdknmfmlfnaa
section
open Go.RowKit Go.Maps

theorem rEx_len (now : Int) (rs : List RE) : ∀ i, (rEx now rs i).1.length = rs.length ∧ (rEx now rs i).2 ≤ i
  | 0 => ⟨rfl, Nat.le_refl _⟩
  | i + 1 => by
    have ih := rEx_len now rs i
    rw [rEx]
    split
    · split
      · rw [List.length_map]; dsimp only; omega
      · omega
    · omega
theorem rEx_no {now : Int} {rs : List RE} {i : Nat} {r : RE} (hr : (rEx now rs i).1[i]? = some r) (h : rOver (rEx now rs i).1 r.mg now = false) : rEx now rs (i + 1) = rEx now rs i := by
  rw [rEx, hr]
  dsimp only
  rw [if_neg (by rw [h]; decide)]
theorem rEx_yes {now : Int} {rs : List RE} {i : Nat} {r : RE} (hr : (rEx now rs i).1[i]? = some r) (h : rOver (rEx now rs i).1 r.mg now = true) : rEx now rs (i + 1) = ((rEx now rs i).1.map (rGiv r.mg), (rEx now rs i).2 + 1) := by
  rw [rEx, hr]
  dsimp only
  rw [if_pos h]
section
variable {w W W' : World} {b : Nat} {s : SL} {q : Rm}
set_option maxRecDepth 100000 in
set_option maxHeartbeats 8000000 in
theorem refExpire15_any (h : RA w b s q W) (now : Int) : Calls Try.prog 24 #[.pointer (some ⟨b, 0, none⟩), .int .i64 now] W fun e w' => e = .returned (.int .i64 (((rEx now q.rs q.rs.length).2 : Nat) : Int)) ∧ Hid (RA w b s { q with rs := (rEx now q.rs q.rs.length).1 } w' ∧ Part (Rb b s) W w') := by
  have HA := keep h
  have hn := h.n
  have hle := h.le
  clear h
  obtain ⟨s1, m, s3⟩ := s
  dsimp only at hn
  have HN := keep hn
  have hn1 : (m : Int) ≤ 1024 := by omega
  clear hn hle
  go_enter Try.func24, Try.ntmps24
  go_wp2
  go_loopw [5, 6, 7, 8] (fun t i _ _ wr => ∃ j : Nat, j ≤ m ∧ i = .int .i64 j ∧ t = .int .i64 (((rEx now q.rs j).2 : Nat) : Int) ∧ Hid (RA w b (s1, m, s3) { q with rs := (rEx now q.rs j).1 } wr ∧ Part (Rb b (s1, m, s3)) W wr)) (fun _ i _ _ _ => m - (intOf i).toNat)
  case atStart => exact ⟨0, Nat.zero_le _, rfl, rfl, keep ⟨HA.out, Part.refl _ _⟩⟩
  case round =>
    obtain ⟨j, hj, rfl, rfl, HR⟩ := hrel
    obtain ⟨c0, _, _, _, _, _⟩ := HR.out.1.b0
    dsimp only at c0
    have hlen := rEx_len now q.rs j
    by_cases hlt : j < m
    · have hjl : j < (rEx now q.rs j).1.length := by have := HN.out; omega
      obtain ⟨r, hr⟩ : ∃ r, (rEx now q.rs j).1[j]? = some r := ⟨_, List.getElem?_eq_getElem hjl⟩
      obtain ⟨g, hg, _, _, hcs, hfz⟩ := HR.out.1.at_ hr
      dsimp only at hg
      subst hg
      have y12 := hcs 12 _ (by decide) rfl
      have hjI : (j : Int) < (m : Int) := by omega
      have hj0 : (0 : Int) ≤ (j : Int) := by omega
      have ht0 : (0 : Int) ≤ (((rEx now q.rs j).2 : Nat) : Int) + 1 := by omega
      have ht1 : (((rEx now q.rs j).2 : Nat) : Int) + 1 ≤ 2048 := by omega
      have HLN := keep (show (rEx now q.rs j).1.length = m by have := HN.out; omega)
      clear hlen hcs hfz hjl
      obtain ⟨ov, hov⟩ : ∃ ov, rOver (rEx now q.rs j).1 r.mg now = ov := ⟨_, rfl⟩
      have KO := keep (show Calls Try.prog 53 #[.pointer (some ⟨b, 0, none⟩), .int .i64 r.mg, .int .i64 now] wr fun e w' => e = .returned (.bool ov) ∧ Hid (Below wr.heap.size wr w') from by rw [← hov]; exact refOver15_any HR.out.1 r.mg now)
      cases ov with
      | false =>
        have HX := keep (rEx_no hr hov)
        clear hov hr
        go_wp2_with (go_at_call 53; refine KO.out.mono ?_; rintro e w1 ⟨rfl, H1⟩)
        go_roundw
        case rel => exact ⟨j + 1, by omega, by go_num, by rw [HX.out], keep ⟨by rw [HX.out]; exact HR.out.1.step H1.out, HR.out.2.trans (Part.of_below (Rb b (some ⟨g, 0, none⟩, m, s3)) H1.out) fun i h => .inl h⟩⟩
        case measure => simp [intOf]; omega
      | true =>
        have HX := keep (rEx_yes hr hov)
        clear hov hr
        obtain ⟨tn, htn⟩ : ∃ tn, (rEx now q.rs j).2 = tn := ⟨_, rfl⟩
        have HTN := keep htn
        obtain ⟨rsj, hrsj⟩ : ∃ rsj, (rEx now q.rs j).1 = rsj := ⟨_, rfl⟩
        rw [hrsj] at HX HR HLN
        rw [htn] at HX ht0 ht1 ⊢
        clear hrsj htn
        go_wp2_with (go_at_call 53; refine KO.out.mono ?_; rintro e w1 ⟨rfl, H1⟩
                     have HR1 := keep (And.intro (HR.out.1.step H1.out) (HR.out.2.trans (Part.of_below (Rb b (some ⟨g, 0, none⟩, m, s3)) H1.out) fun i h => .inl h))
                     have hb0 := HR1.out.1.b0.1
                     have y12' := (H1.out.cell (p := ⟨g, j * 19 + 12, none⟩) (World.block_lt_of_cell? _ _ y12)).trans y12
                     dsimp only at hb0)
        clear hb0 y12' y12 c0
        go_loopw [8] (fun k wr => ∃ i : Nat, i ≤ m ∧ k = .int .i64 i ∧ Hid (RA w b (some ⟨g, 0, none⟩, m, s3) { q with rs := upR (rGiv r.mg) rsj i } wr ∧ Part (Rb b (some ⟨g, 0, none⟩, m, s3)) W wr)) (fun k _ => m - (intOf k).toNat)
        case atStart => exact ⟨0, Nat.zero_le _, rfl, keep ⟨by rw [upR_zero]; exact HR1.out.1, HR1.out.2⟩⟩
        case round =>
          obtain ⟨i, hi, rfl, HI⟩ := hrel
          obtain ⟨c0, _, _, _, _, _⟩ := HI.out.1.b0
          dsimp only at c0
          by_cases hlt2 : i < m
          · have hil : i < rsj.length := by have := HLN.out; omega
            obtain ⟨r2, hr2⟩ : ∃ r2, rsj[i]? = some r2 := ⟨_, List.getElem?_eq_getElem hil⟩
            have hru := upR_at (f := rGiv r.mg) hr2
            obtain ⟨g', hg', _, _, hcs2, hfz2⟩ := HI.out.1.at_ hru
            injection hg' with hg'
            injection hg' with hg'
            subst hg'
            have z12 := hcs2 12 _ (by decide) rfl
            have z13 := hcs2 13 _ (by decide) rfl
            have f13 := hfz2 (i * 19 + 13)
            have hiI : (i : Int) < (m : Int) := by omega
            have hi0 : (0 : Int) ≤ (i : Int) := by omega
            by_cases ha : r2.mg = r.mg
            · have h1 : (r2.mg == r.mg) = true := by simpa using ha
              have hto : rGiv r.mg r2 = { r2 with st := 4 } := by unfold rGiv; rw [if_pos ha]
              have hs := HI.out.1.set hru (r' := { r2 with st := 4 }) rfl 13 (.int .i64 4) (by decide) rfl rfl
              have HS := keep (show RA w b (some ⟨g, 0, none⟩, m, s3) { q with rs := upR (rGiv r.mg) rsj (i + 1) } (‹World›.setCell ⟨g, i * 19 + 13, none⟩ (.int .i64 4)) ∧ Part (Rb b (some ⟨g, 0, none⟩, m, s3)) W _ from
                ⟨by rw [upR_next hr2, hto]; exact hs.1, HI.out.2.trans hs.2 fun k hk => .inl (by rw [hk]; exact .inr rfl)⟩)
              clear ha hto hs hr2 hru hcs2 hfz2 hil
              go_wp2
              go_roundw
              case rel => exact ⟨i + 1, by omega, by go_num, HS⟩
              case measure => simp [intOf]; omega
            · have h1 : (r2.mg == r.mg) = false := by simpa using ha
              have hto : rGiv r.mg r2 = r2 := by unfold rGiv; rw [if_neg ha]
              have HS := keep (show RA w b (some ⟨g, 0, none⟩, m, s3) { q with rs := upR (rGiv r.mg) rsj (i + 1) } _ ∧ Part (Rb b (some ⟨g, 0, none⟩, m, s3)) W _ from
                ⟨by rw [upR_same hr2 hto]; exact HI.out.1, HI.out.2⟩)
              clear ha hto hr2 hru hcs2 hfz2 hil
              go_wp2
              go_roundw
              case rel => exact ⟨i + 1, by omega, by go_num, HS⟩
              case measure => simp [intOf]; omega
          · obtain rfl : m = i := by omega
            go_wp2
            go_roundw
            case rel =>
              refine ⟨j + 1, by omega, by go_num, by rw [HX.out]; go_num, keep ⟨?_, HI.out.2⟩⟩
              rw [HX.out]
              have h1 := HI.out.1
              rw [show upR (rGiv r.mg) rsj m = rsj.map (rGiv r.mg) by rw [← HLN.out, upR_all]] at h1
              exact h1
            case measure => simp [intOf]; omega
    · obtain rfl : m = j := by omega
      have HE := keep HN.out
      go_wp2
      go_ret
      refine ⟨ret_int (by rw [HE.out]), keep ⟨?_, HR.out.2⟩⟩
      have h1 := HR.out.1
      rw [show rEx now q.rs m = rEx now q.rs q.rs.length by rw [← HN.out]] at h1
      exact h1
end
end
section
open Go.RowKit Go.Maps

theorem set_set' {α : Type} (l : List α) (i : Nat) (a b : α) : (l.set i a).set i b = l.set i b := by rw [List.set_set]
theorem RA.sent {w W : World} {b : Nat} {s : SL} {q : Rm} (h : RA w b s q W) {i : Nat} {r : RE} (hr : q.rs[i]? = some r) {g : Nat} (hg : s.1 = some ⟨g, 0, none⟩) (now : Int) :
    RA w b s { q with rs := q.rs.set i (rSnt now r) } ((((W.setCell ⟨g, i * 19 + 13, none⟩ (.int .i64 1)).setCell ⟨g, i * 19 + 14, none⟩ (.int .i64 (wrap64 (r.sn + 1)))).setCell ⟨g, i * 19 + 15, none⟩ (.int .i64 now)).setCell ⟨g, i * 19 + 16, none⟩ (.int .i64 0)) ∧ Part (fun k => k = g) W ((((W.setCell ⟨g, i * 19 + 13, none⟩ (.int .i64 1)).setCell ⟨g, i * 19 + 14, none⟩ (.int .i64 (wrap64 (r.sn + 1)))).setCell ⟨g, i * 19 + 15, none⟩ (.int .i64 now)).setCell ⟨g, i * 19 + 16, none⟩ (.int .i64 0)) := by
  have hl := (List.getElem?_eq_some_iff.1 hr).1
  have hs : ∀ x : RE, (q.rs.set i x)[i]? = some x := fun x => List.getElem?_set_self hl
  obtain ⟨a1, p1⟩ := h.set hr (r' := { r with st := 1 }) hg 13 (.int .i64 1) (by decide) rfl rfl
  obtain ⟨a2, p2⟩ := a1.set (hs _) (r' := { r with st := 1, sn := wrap64 (r.sn + 1) }) hg 14 (.int .i64 (wrap64 (r.sn + 1))) (by decide) rfl rfl
  dsimp only at a2
  rw [set_set'] at a2
  obtain ⟨a3, p3⟩ := a2.set (hs _) (r' := { r with st := 1, sn := wrap64 (r.sn + 1), la := now }) hg 15 (.int .i64 now) (by decide) rfl rfl
  dsimp only at a3
  rw [set_set'] at a3
  obtain ⟨a4, p4⟩ := a3.set (hs _) (r' := rSnt now r) hg 16 (.int .i64 0) (by decide) rfl rfl
  dsimp only at a4
  rw [set_set'] at a4
  exact ⟨a4, ((p1.trans p2 fun k hk => .inl hk).trans p3 fun k hk => .inl hk).trans p4 fun k hk => .inl hk⟩
/-- Between two rounds of send. -/
structure SdR (w W : World) (b : Nat) (s : SL) (q : Rm) (B0 : Nat) (rsj : List RE) (A : Option Addr) (n c : Nat) (tj : List CZ) (wr : World) : Prop where
  ra : RA w b s { q with rs := rsj } wr
  row : wr.ownsRow B0 45 12 (.slice A n c) n (flatF CZ.cells tj)
  pt : Part (fun i => Rb b s i ∨ B0 ≤ i) W wr
theorem SdR.len {w W : World} {b : Nat} {s : SL} {q : Rm} {B0 : Nat} {rsj : List RE} {A : Option Addr} {n c : Nat} {tj : List CZ} {wr : World} (h : SdR w W b s q B0 rsj A n c tj wr) : n = tj.length := by
  have h1 := h.row.1
  rw [flatF_len CZ.len] at h1
  omega
theorem part_base {B0 : Nat} {W W' : World} (h : Below B0 W W') : Part (fun i => B0 ≤ i) W W' := ⟨h.os, h.tape, h.output, h.size, fun i hi hn => h.block i (by omega)⟩
section
variable {w W : World} {b : Nat} {s : SL} {q : Rm} {B0 : Nat} {rsj : List RE} {A : Option Addr} {n c : Nat} {tj : List CZ} {wr w3 : World}
theorem SdR.app (h : SdR w W b s q B0 rsj A n c tj wr) (hB : ∀ i, Rb b s i → i < B0) (hB1 : w.heap.size ≤ B0) (hb : Below B0 wr w3) {A3 : Option Addr} {n3 c3 : Nat} {y : CZ} (ho : w3.ownsRow B0 45 12 (.slice A3 n3 c3) n3 (flatF CZ.cells tj ++ y.cells)) : SdR w W b s q B0 rsj A3 n3 c3 (tj ++ [y]) w3 :=
  ⟨h.ra.part (part_base hb) fun i hi => ⟨Nat.le_trans hB1 hi, fun hr => by have := hB i hr; omega⟩, by
    have e : flatF CZ.cells (tj ++ [y]) = flatF CZ.cells tj ++ y.cells := by rw [flatF_append]; simp [flatF]
    rw [e]
    exact ho, h.pt.trans (part_base hb) fun i hi => .inl (.inr hi)⟩
theorem SdR.sent (h : SdR w W b s q B0 rsj A n c tj wr) (hB : ∀ i, Rb b s i → i < B0) {i : Nat} {r : RE} (hr : rsj[i]? = some r) {g : Nat} (hg : s.1 = some ⟨g, 0, none⟩) (now : Int) :
    SdR w W b s q B0 (rsj.set i (rSnt now r)) A n c tj ((((wr.setCell ⟨g, i * 19 + 13, none⟩ (.int .i64 1)).setCell ⟨g, i * 19 + 14, none⟩ (.int .i64 (wrap64 (r.sn + 1)))).setCell ⟨g, i * 19 + 15, none⟩ (.int .i64 now)).setCell ⟨g, i * 19 + 16, none⟩ (.int .i64 0)) := by
  obtain ⟨a1, a2⟩ := h.ra.sent hr hg now
  have hgR : Rb b s g := .inr (by rw [hg]; rfl)
  exact ⟨a1, a2.own h.row fun k hk hkg => by
    have h1 := (h.row.lt k hk).1
    have h2 := hB g hgR
    rw [hkg] at h1
    omega, h.pt.trans a2 fun k hk => .inl (.inl (by rw [hk]; exact hgR))⟩
end
theorem rSnd_no {st now : Int} {k i : Nat} {rs : List RE} {r : Int} {t : List CZ} {e : RE} (he : rs[i]? = some e) (h : e.st ≠ st) : rSnd st now (k + 1) i rs r t = rSnd st now k (i + 1) rs r t := by
  rw [rSnd, he]
  dsimp only
  rw [if_neg h]
theorem rSnd_full {st now : Int} {k i : Nat} {rs : List RE} {r : Int} {t : List CZ} {e : RE} (he : rs[i]? = some e) (h : e.st = st) (hr : r < (e.c.da.2.1 : Int)) : rSnd st now (k + 1) i rs r t = (rs, t, r, false) := by
  rw [rSnd, he]
  dsimp only
  rw [if_pos h, if_pos hr]
theorem rSnd_yes {st now : Int} {k i : Nat} {rs : List RE} {r : Int} {t : List CZ} {e : RE} (he : rs[i]? = some e) (h : e.st = st) (hr : ¬ r < (e.c.da.2.1 : Int)) : rSnd st now (k + 1) i rs r t = rSnd st now k (i + 1) (rs.set i (rSnt now e)) (r - (e.c.da.2.1 : Int)) (t ++ [e.c]) := by
  rw [rSnd, he]
  dsimp only
  rw [if_pos h, if_neg hr]
section
variable {w W W' : World} {b : Nat} {s : SL} {q : Rm}
set_option maxRecDepth 100000 in
set_option maxHeartbeats 8000000 in
theorem refSend15_any {B0 : Nat} {A : Option Addr} {n c : Nat} {t : List CZ} (h : RA w b s q W) (hB : ∀ i, Rb b s i → i < B0) (hB1 : w.heap.size ≤ B0) (hB2 : B0 ≤ W.heap.size) (ho : W.ownsRow B0 45 12 (.slice A n c) n (flatF CZ.cells t)) (hn1 : n ≤ 2000) (st now room : Int) (hro : room < 9223372036854775808) :
    Calls Try.prog 50 #[.pointer (some ⟨b, 0, none⟩), .slice A n c, .int .i64 st, .int .i64 now, .int .i64 room] W fun e w' => ∃ A' n' c', e = .returned (.tuple #[.slice A' n' c', .int .i64 (rSnd st now q.rs.length 0 q.rs room t).2.2.1, .bool (rSnd st now q.rs.length 0 q.rs room t).2.2.2]) ∧ Hid (SdR w W b s q B0 (rSnd st now q.rs.length 0 q.rs room t).1 A' n' c' (rSnd st now q.rs.length 0 q.rs room t).2.1 w') ∧ Hid ((rSnd st now q.rs.length 0 q.rs room t).2.2.1 < 9223372036854775808 ∧ n' ≤ n + 1024) := by
  have HA := keep (SdR.mk h ho (Part.refl (fun i => Rb b s i ∨ B0 ≤ i) W))
  have hm := h.n
  have hle := h.le
  have HB := keep (And.intro hB (And.intro hB1 hB2))
  obtain ⟨i0, hi0, hz0, hz1, hz2⟩ := info_parts zchunk_info
  clear h ho hB hB1 hB2
  obtain ⟨s1, m, s3⟩ := s
  dsimp only at hm
  have HN := keep hm
  have hm1 : (m : Int) ≤ 1024 := by omega
  have HN1 := keep hn1
  obtain ⟨R, hR⟩ : ∃ R, rSnd st now q.rs.length 0 q.rs room t = R := ⟨_, rfl⟩
  rw [hR]
  have HR0 := keep hR
  have HRO := keep hro
  clear hm hle hR hn1
  go_enter Try.func50, Try.ntmps50
  go_wp2
  go_loopw [1, 4, 13] (fun o ro i wr => ∃ (j : Nat) (rsj : List RE) (rj : Int) (tj : List CZ) (A : Option Addr) (nn c : Nat), j ≤ m ∧ i = .int .i64 j ∧ ro = .int .i64 rj ∧ o = .slice A nn c ∧ Hid (SdR w W b (s1, m, s3) q B0 rsj A nn c tj wr) ∧ Hid (rSnd st now (m - j) j rsj rj tj = R ∧ rsj.length = m ∧ rj < 9223372036854775808 ∧ nn ≤ n + j)) (fun _ _ i _ => m - (intOf i).toNat)
  case atStart => exact ⟨0, q.rs, room, t, A, n, c, Nat.zero_le _, rfl, rfl, rfl, HA, keep ⟨by rw [Nat.sub_zero, HN.out]; exact HR0.out, HN.out.symm, HRO.out, Nat.le_refl _⟩⟩
  case round =>
    clear HA HR0 hro
    obtain ⟨j, rsj, rj, tj, A, nn, c, hj, rfl, rfl, rfl, HI, HR⟩ := hrel
    obtain ⟨c0, _, _, _, _, _⟩ := HI.out.ra.b0
    dsimp only at c0
    by_cases hlt : j < m
    · have hjl : j < rsj.length := by have := HR.out.2.1; omega
      obtain ⟨r, hr⟩ : ∃ r, rsj[j]? = some r := ⟨_, List.getElem?_eq_getElem hjl⟩
      obtain ⟨g, hg, hgl, hgb, hcs, hfz⟩ := HI.out.ra.at_ hr
      dsimp only at hg
      subst hg
      have hjI : (j : Int) < (m : Int) := by omega
      have hj0 : (0 : Int) ≤ (j : Int) := by omega
      have hk : m - j = (m - (j + 1)) + 1 := by omega
      have y13 := hcs 13 _ (by decide) rfl
      have y11 := hcs 11 _ (by decide) rfl
      by_cases hst : r.st = st
      · have h1 : (r.st == st) = true := by simpa using hst
        have h1' : (r.st != st) = false := by simpa using hst
        by_cases hful : rj < (r.c.da.2.1 : Int)
        · have HF := keep (show R = (rsj, tj, rj, false) from by rw [← HR.out.1, hk, rSnd_full hr hst hful])
          have hd : decide (rj < (r.c.da.2.1 : Int)) = true := decide_eq_true hful
          have HNN := keep HR.out.2.2
          clear hr hcs hfz hst hjl
          go_wp2
          go_ret3
          refine ⟨A, nn, c, by rw [HF.out]; rfl, by rw [HF.out]; exact HI, by rw [HF.out]; exact keep ⟨HNN.out.1, by have := HNN.out.2; omega⟩⟩
        · have hd : decide (rj < (r.c.da.2.1 : Int)) = false := decide_eq_false hful
          have HX := keep (show rSnd st now (m - (j + 1)) (j + 1) (rsj.set j (rSnt now r)) (rj - (r.c.da.2.1 : Int)) (tj ++ [r.c]) = R from by rw [← HR.out.1, hk, rSnd_yes hr hst hful])
          have HNN := keep HR.out.2
          have HMX := keep (show nn + 1 ≤ maxLen ∧ (nn + 1) * i0.bytes ≤ 140737488355328 from ⟨by have := HR.out.2.2.2; have := HN1.out; unfold maxLen; omega, by rw [hz2]; have := HR.out.2.2.2; have := HN1.out; omega⟩)
          have HBS := keep (show B0 ≤ wr.heap.size from Nat.le_trans HB.out.2.2 HI.out.pt.size)
          have hw1 : IntKind.i64.wrap (rj - (r.c.da.2.1 : Int)) = rj - (r.c.da.2.1 : Int) := IntWalk.i64_in _ (by have := HR.out.2.2.1; omega)
          have y0 := hcs 0 _ (by decide) rfl
          rw [Nat.add_zero] at y0
          have y1 := hcs 1 _ (by decide) rfl
          have y2 := hcs 2 _ (by decide) rfl
          have y3 := hcs 3 _ (by decide) rfl
          have y4 := hcs 4 _ (by decide) rfl
          have y5 := hcs 5 _ (by decide) rfl
          have y6 := hcs 6 _ (by decide) rfl
          have y7 := hcs 7 _ (by decide) rfl
          have y8 := hcs 8 _ (by decide) rfl
          have y9 := hcs 9 _ (by decide) rfl
          have y10 := hcs 10 _ (by decide) rfl
          have HRR := keep hr
          have HLT := keep hj
          have HSM := keep (HI.out.ra.zv r (List.mem_of_getElem? hr)).2.da
          have HCS := keep hcs
          clear hcs hfz hst hjl hr hj hk
          obtain ⟨o, hjo⟩ : ∃ o, j * 19 = o := ⟨_, rfl⟩
          rw [hjo] at y0 y1 y2 y3 y4 y5 y6 y7 y8 y9 y10 y11 y13
          obtain ⟨rc, mg, st', sn, la, ms, un, tr⟩ := r
          obtain ⟨xk, xf, xa, xb, xo, xs, xp, ⟨x1, x2, x3⟩, ⟨x4, x5, x6⟩, ⟨x7, x8, x9⟩, ⟨x10, x11, x12⟩, ⟨x13, x14, x15⟩, xbl, xdu, xsk, xpr, xbs⟩ := rc
          dsimp only at y0 y1 y2 y3 y4 y5 y6 y7 y8 y9 y10 y11 y13 h1 h1' hd hw1 hful HSM
          go_upto_region 9 with (at_builtin; refine wpl_appendK (by decide) rfl (.tmp 59) (.tmp 68) 31 rfl B0 45 i0 _ Try.underlying31 hi0 hz0 hz1 rfl _ nn (flatF CZ.cells tj) rfl (HI.out.row.alloc _) (some ⟨wr.heap.size, 0, none⟩) 1 1 [.int .u8 xk, .int .u8 xf, .int .u32 xa, .int .u32 xb, .int .u16 xo, .int .u16 xs, .int .u32 xp, .slice x1 x2 x3, .slice x4 x5 x6, .slice x7 x8 x9, .slice x10 x11 x12, .slice x13 x14 x15] rfl rfl (SR.row (heap_alloc_new wr _)) (CZ.one ⟨xk, xf, xa, xb, xo, xs, xp, ⟨x1, x2, x3⟩, ⟨x4, x5, x6⟩, ⟨x7, x8, x9⟩, ⟨x10, x11, x12⟩, ⟨x13, x14, x15⟩, xbl, xdu, xsk, xpr, xbs⟩) HMX.out.1 HMX.out.2 (Nat.le_trans HBS.out (below_lay wr _).size) ?_; intro A3 c3 w3 ho3 hb3 hg3; have HB3 := keep hb3; clear hb3 hg3 c0 y0 y1 y2 y3 y4 y5 y6 y7 y8 y9 y10 y11 y13)
          have H3 := keep (HI.out.app HB.out.1 HB.out.2.1 (((below_lay wr _).mono HBS.out).trans HB3.out) (y := ⟨xk, xf, xa, xb, xo, xs, xp, ⟨x1, x2, x3⟩, ⟨x4, x5, x6⟩, ⟨x7, x8, x9⟩, ⟨x10, x11, x12⟩, ⟨x13, x14, x15⟩, xbl, xdu, xsk, xpr, xbs⟩) ho3.out)
          clear HB3 ho3
          have HG := keep hgb
          obtain ⟨g', hg', _, _, hcs3, hfz3⟩ := H3.out.ra.at_ HRR.out
          injection hg' with hg'
          injection hg' with hg'
          subst hg'
          have c0 := H3.out.ra.b0.1
          dsimp only at c0
          have z13 := hcs3 13 _ (by decide) rfl
          have z14 := hcs3 14 _ (by decide) rfl
          have z15 := hcs3 15 _ (by decide) rfl
          have z16 := hcs3 16 _ (by decide) rfl
          have f13 := hfz3 (j * 19 + 13)
          have f14 := hfz3 (j * 19 + 14)
          have f15 := hfz3 (j * 19 + 15)
          have f16 := hfz3 (j * 19 + 16)
          have H4 := keep (H3.out.sent HB.out.1 HRR.out rfl now)
          dsimp only at z13 z14 z15 z16
          rw [hjo] at z13 z14 z15 z16 f13 f14 f15 f16 H4
          clear hcs3 hfz3
          go_wp2
          go_roundw
          case rel => exact ⟨j + 1, _, _, _, A3, nn + 1, c3, by have := HLT.out; omega, by go_num, rfl, rfl, H4, keep ⟨HX.out, by rw [List.length_set]; exact HNN.out.1, by have := HNN.out.2.1; omega, by have := HNN.out.2.2; omega⟩⟩
          case measure => have := HLT.out; simp [intOf]; omega
      · have h1 : (r.st == st) = false := by simpa using hst
        have h1' : (r.st != st) = true := by simpa using hst
        have HX := keep (show rSnd st now (m - (j + 1)) (j + 1) rsj rj tj = R from by rw [← HR.out.1, hk, rSnd_no hr hst])
        have HNN := keep HR.out.2
        clear hr hcs hfz hst hjl y11
        go_wp2
        go_roundw
        case rel => exact ⟨j + 1, rsj, rj, tj, A, nn, c, by omega, by go_num, rfl, rfl, HI, keep ⟨HX.out, HNN.out.1, HNN.out.2.1, by have := HNN.out.2.2; omega⟩⟩
        case measure => simp [intOf]; omega
    · obtain rfl : m = j := by omega
      have HF := keep (show R = (rsj, tj, rj, true) from by rw [← HR.out.1, Nat.sub_self]; rfl)
      have HNN := keep HR.out.2.2
      go_wp2
      go_ret3
      refine ⟨A, nn, c, by rw [HF.out]; rfl, by rw [HF.out]; exact HI, by rw [HF.out]; exact keep ⟨HNN.out.1, by have := HNN.out.2; have := hm1; omega⟩⟩
end
end
section
open Go.RowKit Go.Maps

theorem rSnd_len (st now : Int) : ∀ (k i : Nat) (rs : List RE) (r : Int) (t : List CZ), (rSnd st now k i rs r t).1.length = rs.length
  | 0, i, rs, r, t => rfl
  | k + 1, i, rs, r, t => by
    rw [rSnd]
    split
    · rfl
    · split
      · split
        · rfl
        · rw [rSnd_len st now k]
          exact List.length_set
      · exact rSnd_len st now k (i + 1) rs r t
section
variable {w W W' : World} {b : Nat} {s : SL} {q : Rm}
set_option maxHeartbeats 4000000 in
theorem refTake15_any (h : RA w b s q W) (hw : w.heap.size ≤ W.heap.size) (now room : Int) (hro : room < 9223372036854775808) :
    Calls Try.prog 19 #[.pointer (some ⟨b, 0, none⟩), .int .i64 now, .int .i64 room] W fun e w' => ∃ A n c, e = .returned (.slice A n c) ∧ Hid (SdR w W b s q W.heap.size (rTk q.rs now room).1 A n c (rTk q.rs now room).2 w') ∧ Hid (n ≤ 2048) := by
  have hlt := h.lt
  have K1 := refSend15_any (t := []) h hlt hw (Nat.le_refl _) (World.ownsRow_nil _ _ _ _) (Nat.zero_le _) 2 now room hro
  obtain ⟨R, hR⟩ : ∃ R, rSnd 2 now q.rs.length 0 q.rs room [] = R := ⟨_, rfl⟩
  have hRl : R.1.length = q.rs.length := by rw [← hR]; exact rSnd_len _ _ _ _ _ _ _
  have hT : rTk q.rs now room = if R.2.2.2 = true then ((rSnd 0 now R.1.length 0 R.1 R.2.2.1 R.2.1).1, (rSnd 0 now R.1.length 0 R.1 R.2.2.1 R.2.1).2.1) else (R.1, R.2.1) := by unfold rTk; rw [hR, hRl]
  rw [hR] at K1
  have HT := keep hT
  have HLT := keep hlt
  have HW := keep hw
  replace K1 := keep K1
  have K2 := keep (fun w1 A1 n1 c1 (H : SdR w W b s q W.heap.size R.1 A1 n1 c1 R.2.1 w1) (hn : R.2.2.1 < 9223372036854775808 ∧ n1 ≤ 0 + 1024) => refSend15_any (q := { q with rs := R.1 }) H.ra HLT.out HW.out H.pt.size H.row (by omega) 0 now R.2.2.1 hn.1)
  clear h hR hRl hT hlt hw hro
  obtain ⟨r1, r2, r3, r4⟩ := R
  dsimp only at K1 K2 HT
  cases r4 with
  | false =>
    have HT2 := keep (show rTk q.rs now room = (r1, r2) from by rw [HT.out]; rfl)
    go_enter Try.func19, Try.ntmps19
    go_wp2_with (go_at_call 50; refine K1.out.mono ?_; rintro e w1 ⟨A1, n1, c1, rfl, H1, H2⟩)
    go_ret
    exact ⟨A1, n1, c1, rfl, by rw [HT2.out]; exact H1, keep (by have := H2.out.2; omega)⟩
  | true =>
    obtain ⟨S, hS⟩ : ∃ S, rSnd 0 now r1.length 0 r1 r3 r2 = S := ⟨_, rfl⟩
    rw [hS] at K2
    have HT2 := keep (show rTk q.rs now room = (S.1, S.2.1) from by rw [HT.out, if_pos rfl, hS])
    clear hS HT
    obtain ⟨v1, v2, v3, v4⟩ := S
    dsimp only at K2 HT2
    go_enter Try.func19, Try.ntmps19
    go_wp2_with (go_at_call 50; first | (have _ := H1; refine (K2.out _ _ _ _ H1.out H2.out).mono ?_; rintro e w2 ⟨A3, n3, c3, rfl, H3, H4⟩) | (refine K1.out.mono ?_; rintro e w1 ⟨A1, n1, c1, rfl, H1, H2⟩))
    go_ret
    exact ⟨A3, n3, c3, rfl, by rw [HT2.out]; exact keep ⟨H3.out.ra, H3.out.row, H1.out.pt.trans H3.out.pt fun i hi => .inl hi⟩, keep (by have := H4.out.2; have := H2.out.2; omega)⟩
end
end
end Go.Proofs.Ytffjdknmfmlfnaa
