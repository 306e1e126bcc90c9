/- KBL of the stage: texts R11, R12, joined. -/
import Derived.Test.YtffjdknmfmlfnaaKBK
import Derived.BigQuiet
set_option linter.unusedSimpArgs false
set_option linter.unusedVariables false
namespace Go.Proofs.Ytffjdknmfmlfnaa
section
open Go.RowKit Go.Maps

theorem conv_dn (w : World) (A : Option Addr) (n c : Nat) (bs : List UInt8) (h : BS w A n c bs) (S : ByteArray) (hS : S = ⟨bs.toArray⟩) :
    ∀ q, (convert 43 9 (.slice A n c)).run Try.prog (w.drewN q) = .ok (.string S) (w.drewN q) := by
  intro q
  have := run_bytes_str (P := Try.prog) (w.drewN q) 43 5 Try.underlying43 Try.underlying5 A bs c (h.step ⟨rfl, rfl, rfl, Nat.le_refl _, fun _ _ => rfl⟩).br 9 Try.underlying9
  rw [← h.len, ← hS] at this
  exact this
theorem conv_z (w : World) (A : Option Addr) (n c : Nat) (bs : List UInt8) (h : BS w A n c bs) (S : ByteArray) (hS : S = ⟨bs.toArray⟩) :
    (convert 43 9 (.slice A n c)).run Try.prog w = .ok (.string S) w := by
  have := run_bytes_str (P := Try.prog) w 43 5 Try.underlying43 Try.underlying5 A bs c h.br 9 Try.underlying9
  rw [← h.len, ← hS] at this
  exact this
theorem below_dq {B : Nat} {a x : World} (h : Below B a x) (n : Nat) : Below B a (x.drewN n) := ⟨h.os, h.tape, h.output, h.size, h.block⟩
theorem lay_two (w : World) (X Y : Obj) : Below w.heap.size w ((w.alloc X).alloc Y) := up (below_lay w X) (below_lay _ Y)
set_option maxHeartbeats 4000000 in
theorem same06_z {w : World} {A B : Option Addr} {n c d : Nat} {l k : List PZ} (hl : LR PZ.cells w (A, n, c) l) (hk : LR PZ.cells w (B, n, d) k) (pl : ∀ p ∈ l, PV5 w p) (pk : ∀ p ∈ k, PV5 w p) (h : l.map PZ.ct = k.map PZ.ct) (hn : n ≤ 1000000) :
    Calls Try.prog 74 #[.slice A n c, .slice B n d] w fun e w' => e = .returned (.bool true) ∧ ∃ q, w' = w.drewN q := by
  have HL := keep hl
  have HK := keep hk
  have PL := keep pl
  have PK := keep pk
  have HH := keep h
  clear hl hk pl pk h
  go_enter Try.func74, Try.ntmps74
  go_wp2_with fail
  go_loopw [5] (fun i wr => ∃ j q : Nat, j ≤ n ∧ i = .int .i64 j ∧ wr = w.drewN q) (fun i _ => n - (intOf i).toNat)
  case atStart => exact ⟨0, 0, Nat.zero_le _, rfl, rfl⟩
  case round =>
    obtain ⟨j, q, hj, rfl, rfl⟩ := hrel
    by_cases hlt : j < n
    · obtain ⟨b, o, x, hA, hbl, hx, hcx⟩ := HL.out.at_ PZ.len (by decide) (j := j) hlt
      obtain ⟨b', o', y, hB, hbl', hy, hcy⟩ := HK.out.at_ PZ.len (by decide) (j := j) hlt
      dsimp only at hA hB
      subst hA hB
      have x0 := hcx 0 _ rfl
      have x1 := hcx 1 _ rfl
      have y0 := hcy 0 _ rfl
      have y1 := hcy 1 _ rfl
      rw [Nat.add_zero] at x0 y0
      have hxy : x.ct = y.ct := by
        have h1 := congrArg (fun z => z[j]?) HH.out
        simpa [hx, hy] using h1
      have k1 := conv_dn w _ _ _ _ (PL.out x (List.mem_of_getElem? hx)).1 _ rfl
      have k2 := conv_dn w _ _ _ _ (PK.out y (List.mem_of_getElem? hy)).1 _ rfl
      clear hcx hcy hx hy
      obtain ⟨xk, xa, xn, xc, xv⟩ := x
      obtain ⟨yk, ya, yn, yc, yv⟩ := y
      unfold PZ.ct at hxy
      injection hxy with e1 e2
      dsimp only at e1 e2 x0 x1 y0 y1 k1 k2
      subst e1 e2
      have hkk : (xk != xk) = false := by simp
      have hjI : (j : Int) < (n : Int) := by omega
      have hj0 : (0 : Int) ≤ (j : Int) := by omega
      have hnI : (n : Int) ≤ 1000000 := by omega
      go_wp2_with fail
      go_quiet (fail)
      go_wp2
      exact ⟨⟨j + 1, _, by omega, by go_num, rfl⟩, by simp [intOf]; omega⟩
    · obtain rfl : n = j := by omega
      go_wp2
      go_ret
      exact ⟨rfl, _, rfl⟩
/-- Two chunks in boxes. -/
structure Bx2 (w : World) (x y : CZ) (N : Nat) (W : World) : Prop where
  bx : W.heap[N]? = some (.cells x.cells.toArray 45 (0, 0))
  by_ : W.heap[N + 1]? = some (.cells y.cells.toArray 45 (0, 0))
  bl : Below w.heap.size w W
theorem pair_get {l : List (Int × Int)} {w W : World} {A : Option Addr} {n c j : Nat} (h : LR blC w (A, n, c) l) (hb : Below w.heap.size w W) (hj : j < n) : ∃ g o p, A = some ⟨g, o, none⟩ ∧ l[j]? = some p ∧ W.cell? ⟨g, o + j * 2, none⟩ = some (.int .u16 p.1) ∧ W.cell? ⟨g, o + j * 2 + 1, none⟩ = some (.int .u16 p.2) := by
  obtain ⟨g, o, p, h1, h2, h3, h4⟩ := h.at_ blC_len (by decide) (j := j) hj
  have y0 := h4 0 _ rfl
  rw [Nat.add_zero] at y0
  exact ⟨g, o, p, h1, h3, (hb.cell (p := ⟨g, o + j * 2, none⟩) h2).trans y0, (hb.cell (p := ⟨g, o + j * 2 + 1, none⟩) h2).trans (h4 1 _ rfl)⟩
theorem one_get {l : List Int} {w W : World} {A : Option Addr} {n c j : Nat} (h : LR duC w (A, n, c) l) (hb : Below w.heap.size w W) (hj : j < n) : ∃ g o p, A = some ⟨g, o, none⟩ ∧ l[j]? = some p ∧ W.cell? ⟨g, o + j, none⟩ = some (.int .u32 p) := by
  obtain ⟨g, o, p, h1, h2, h3, h4⟩ := h.at_ duC_len (by decide) (j := j) hj
  have y0 := h4 0 _ rfl
  rw [Nat.add_zero, Nat.mul_one] at y0
  exact ⟨g, o, p, h1, h3, (hb.cell (p := ⟨g, o + j, none⟩) h2).trans y0⟩
set_option maxRecDepth 1000000 in
set_option maxHeartbeats 8000000 in
theorem same07_z {w : World} (x y : CZ) (hx : ZV w x ∧ Sm x) (hy : ZV w y) (h : x.ct = y.ct) :
    Calls Try.prog 49 #[.agg x.cells.toArray, .agg y.cells.toArray] w fun e w' => e = .returned (.bool true) ∧ Below w.heap.size w w' := by
  have HBB := keep (show Bx2 w x y w.heap.size ((w.alloc (.cells x.cells.toArray 45)).alloc (.cells y.cells.toArray 45)) from by
    have h1 := below_lay w (.cells x.cells.toArray 45)
    have h2 := below_lay (w.alloc (.cells x.cells.toArray 45)) (.cells y.cells.toArray 45)
    have hs : (w.alloc (.cells x.cells.toArray 45)).heap.size = w.heap.size + 1 := by simp
    have h3 := heap_alloc_new (w.alloc (.cells x.cells.toArray 45)) (.cells y.cells.toArray 45)
    rw [hs] at h3
    exact ⟨(h2.block _ (by rw [hs]; exact Nat.lt_succ_self _)).trans (heap_alloc_new w _), h3, up h1 h2⟩)
  have K6 := keep (fun (W : World) (hb : Below w.heap.size w W) => same06_z (w := W) (hx.1.step hb).pr (by
      have h1 := (hy.step hb).pr
      have h2 := (hx.1.step hb).pr.1
      have h3 := congrArg List.length (congrArg Ct.prs h)
      have h4 := h1.1
      dsimp only [CZ.ct] at h3 h4 h2
      rw [List.length_map, List.length_map] at h3
      have h5 : y.pr.2.1 = x.pr.2.1 := by omega
      rw [show y.pr = (y.pr.1, x.pr.2.1, y.pr.2.2) from by rw [← h5]] at h1
      exact h1) (hx.1.step hb).ps (hy.step hb).ps (congrArg Ct.prs h) hx.2.pr)
  have k1 := fun (X Y : Obj) => conv_z ((w.alloc X).alloc Y) x.da.1 x.da.2.1 x.da.2.2 x.bs (hx.1.da.step (lay_two w X Y)) _ rfl
  have k2 := fun (X Y : Obj) => conv_z ((w.alloc X).alloc Y) y.da.1 y.da.2.1 y.da.2.2 y.bs (hy.da.step (lay_two w X Y)) _ rfl
  have HX := keep hx
  have HY := keep hy
  have e1 : x.bs = y.bs := congrArg Ct.bs h
  have hlb : y.bl.2.1 = x.bl.2.1 := by
    have h1 := hx.1.bl.1; have h2 := hy.bl.1; have h3 : x.bls = y.bls := congrArg Ct.bls h
    rw [h1, h2, h3]
  have hld : y.du.2.1 = x.du.2.1 := by
    have h1 := hx.1.du.1; have h2 := hy.du.1; have h3 : x.dus = y.dus := congrArg Ct.dus h
    rw [h1, h2, h3]
  have hls : y.sk.2.1 = x.sk.2.1 := by
    have h1 := hx.1.sk.1; have h2 := hy.sk.1; have h3 : x.sks = y.sks := congrArg Ct.sks h
    rw [h1, h2, h3]
  have hlp : y.pr.2.1 = x.pr.2.1 := by
    have h1 := hx.1.pr.1; have h2 := hy.pr.1
    have h3 := congrArg List.length (congrArg Ct.prs h)
    dsimp only [CZ.ct] at h3
    rw [List.length_map, List.length_map] at h3
    omega
  have HBL := keep (And.intro hx.1.bl (And.intro hy.bl (show x.bls = y.bls from congrArg Ct.bls h)))
  have HDU := keep (And.intro hx.1.du (And.intro hy.du (show x.dus = y.dus from congrArg Ct.dus h)))
  have HSK := keep (And.intro hx.1.sk (And.intro hy.sk (show x.sks = y.sks from congrArg Ct.sks h)))
  have HSM := keep hx.2
  have g0 : x.kd = y.kd := congrArg Ct.kd h
  have g1 : x.fl = y.fl := congrArg Ct.fl h
  have g2 : x.a = y.a := congrArg Ct.a h
  have g3 : x.b = y.b := congrArg Ct.b h
  have g4 : x.ou = y.ou := congrArg Ct.ou h
  have g5 : x.si = y.si := congrArg Ct.si h
  have g6 : x.pp = y.pp := congrArg Ct.pp h
  clear hx hy h
  obtain ⟨xk, xf, xa, xb, xo, xs, xp, ⟨x1, x2, x3⟩, ⟨x4, x5, x6⟩, ⟨x7, x8, x9⟩, ⟨x10, x11, x12⟩, ⟨x13, x14, x15⟩, xbl, xdu, xsk, xpr, xbs⟩ := x
  obtain ⟨yk, yf, ya, yb, yo, ys, yp, ⟨y1, y2, y3⟩, ⟨y4, y5, y6⟩, ⟨y7, y8, y9⟩, ⟨y10, y11, y12⟩, ⟨y13, y14, y15⟩, ybl, ydu, ysk, ypr, ybs⟩ := y
  dsimp only at g0 g1 g2 g3 g4 g5 g6 e1 hlb hld hls hlp
  subst g0 g1 g2 g3 g4 g5 g6 e1 hlb hld hls hlp
  dsimp only [CZ.cells] at HBB k1 k2 K6 ⊢
  go_enter Try.func49, Try.ntmps49
  go_wp2_with (go_at_call 74; refine (K6.out _ HBB.out.bl).mono ?_; rintro e w2 ⟨rfl, q0, rfl⟩)
  obtain ⟨W2, hW2⟩ : ∃ W2, (((w.alloc (.cells #[.int .u8 xk, .int .u8 xf, .int .u32 xa, .int .u32 xb, .int .u16 xo, .int .u16 xs, .int .u32 xp, .slice x1 y2 x3, .slice x4 y5 x6, .slice x7 y8 x9, .slice x10 y11 x12, .slice x13 x14 x15] 45)).alloc (.cells #[.int .u8 xk, .int .u8 xf, .int .u32 xa, .int .u32 xb, .int .u16 xo, .int .u16 xs, .int .u32 xp, .slice y1 y2 y3, .slice y4 y5 y6, .slice y7 y8 y9, .slice y10 y11 y12, .slice y13 y14 y15] 45)).drewN q0) = W2 := ⟨_, rfl⟩
  have HB2 := keep (show Below w.heap.size w W2 from by rw [← hW2]; exact below_dq HBB.out.bl _)
  have bx := (show W2.heap[w.heap.size]? = some (.cells #[.int .u8 xk, .int .u8 xf, .int .u32 xa, .int .u32 xb, .int .u16 xo, .int .u16 xs, .int .u32 xp, .slice x1 y2 x3, .slice x4 y5 x6, .slice x7 y8 x9, .slice x10 y11 x12, .slice x13 x14 x15] 45 (0, 0)) from by rw [← hW2]; exact HBB.out.bx)
  have by_ := (show W2.heap[w.heap.size + 1]? = some (.cells #[.int .u8 xk, .int .u8 xf, .int .u32 xa, .int .u32 xb, .int .u16 xo, .int .u16 xs, .int .u32 xp, .slice y1 y2 y3, .slice y4 y5 y6, .slice y7 y8 y9, .slice y10 y11 y12, .slice y13 y14 y15] 45 (0, 0)) from by rw [← hW2]; exact HBB.out.by_)
  obtain ⟨N, hN⟩ : ∃ N, w.heap.size = N := ⟨_, rfl⟩
  rw [hN] at bx by_
  have c7 := upd_cell bx 7 _ rfl
  have c8 := upd_cell bx 8 _ rfl
  have c9 := upd_cell bx 9 _ rfl
  have d7 := upd_cell by_ 7 _ rfl
  have d8 := upd_cell by_ 8 _ rfl
  have d9 := upd_cell by_ 9 _ rfl
  simp only [hW2, hN]
  clear bx by_ hW2 k1 k2 hN
  go_loopw [5] (fun i wr => ∃ j d : Nat, j ≤ y2 ∧ i = .int .i64 j ∧ wr = W2.drewN d) (fun i _ => y2 - (intOf i).toNat)
  case atStart => exact ⟨0, 0, Nat.zero_le _, rfl, rfl⟩
  case round =>
    obtain ⟨j, d, hj, rfl, rfl⟩ := hrel
    by_cases hlt : j < y2
    · obtain ⟨g, o, p, hA, hp, v0, v1⟩ := pair_get (j := j) HBL.out.1 HB2.out hlt
      obtain ⟨g', o', p', hB, hp', u0, u1⟩ := pair_get (j := j) HBL.out.2.1 HB2.out hlt
      have hpp : p' = p := by have h9 := HBL.out.2.2; rw [h9, hp'] at hp; injection hp
      subst hpp
      have hjI : (j : Int) < (y2 : Int) := by omega
      have hj0 : (0 : Int) ≤ (j : Int) := by omega
      have hnI : (y2 : Int) ≤ 1000000 := by have := HSM.out.bl; dsimp only at this; omega
      have hq1 : (p'.1 != p'.1) = false := by simp
      have hq2 : (p'.2 != p'.2) = false := by simp
      subst hA hB
      clear hp hp'
      go_wp2
      go_quiet (fail)
      go_wp2
      exact ⟨⟨j + 1, _, by omega, by go_num, rfl⟩, by simp [intOf]; omega⟩
    · obtain rfl : y2 = j := by omega
      clear hlt hj
      go_wp2
      go_loopw [6] (fun i wr => ∃ j d : Nat, j ≤ y5 ∧ i = .int .i64 j ∧ wr = W2.drewN d) (fun i _ => y5 - (intOf i).toNat)
      case atStart => exact ⟨0, _, Nat.zero_le _, rfl, rfl⟩
      case round =>
        obtain ⟨j, d, hj, rfl, rfl⟩ := hrel
        by_cases hlt : j < y5
        · obtain ⟨g, o, p, hA, hp, v0⟩ := one_get (j := j) HDU.out.1 HB2.out hlt
          obtain ⟨g', o', p', hB, hp', u0⟩ := one_get (j := j) HDU.out.2.1 HB2.out hlt
          have hpp : p' = p := by have h9 := HDU.out.2.2; rw [h9, hp'] at hp; injection hp
          subst hpp
          have hjI : (j : Int) < (y5 : Int) := by omega
          have hj0 : (0 : Int) ≤ (j : Int) := by omega
          have hnI : (y5 : Int) ≤ 1000000 := by have := HSM.out.du; dsimp only at this; omega
          have hq1 : (p' != p') = false := by simp
          have hq2 := hq1
          subst hA hB
          clear hp hp'
          go_wp2
          go_quiet (fail)
          go_wp2
          exact ⟨⟨j + 1, _, by omega, by go_num, rfl⟩, by simp [intOf]; omega⟩
        · obtain rfl : y5 = j := by omega
          clear hlt hj
          go_wp2
          go_loopw [7] (fun i wr => ∃ j d : Nat, j ≤ y8 ∧ i = .int .i64 j ∧ wr = W2.drewN d) (fun i _ => y8 - (intOf i).toNat)
          case atStart => exact ⟨0, _, Nat.zero_le _, rfl, rfl⟩
          case round =>
            obtain ⟨j, d, hj, rfl, rfl⟩ := hrel
            by_cases hlt : j < y8
            · obtain ⟨g, o, p, hA, hp, v0, v1⟩ := pair_get (j := j) HSK.out.1 HB2.out hlt
              obtain ⟨g', o', p', hB, hp', u0, u1⟩ := pair_get (j := j) HSK.out.2.1 HB2.out hlt
              have hpp : p' = p := by have h9 := HSK.out.2.2; rw [h9, hp'] at hp; injection hp
              subst hpp
              have hjI : (j : Int) < (y8 : Int) := by omega
              have hj0 : (0 : Int) ≤ (j : Int) := by omega
              have hnI : (y8 : Int) ≤ 1000000 := by have := HSM.out.sk; dsimp only at this; omega
              have hq1 : (p'.1 != p'.1) = false := by simp
              have hq2 : (p'.2 != p'.2) = false := by simp
              subst hA hB
              clear hp hp'
              go_wp2
              go_quiet (fail)
              go_wp2
              exact ⟨⟨j + 1, _, by omega, by go_num, rfl⟩, by simp [intOf]; omega⟩
            · obtain rfl : y8 = j := by omega
              clear hlt hj
              go_wp2
              go_ret
              exact ⟨rfl, below_dq HB2.out _⟩
end
section
open Go.RowKit Go.Maps

set_option maxRecDepth 1000000 in
set_option maxHeartbeats 2000000 in
theorem sameChunks_z (A B : Option Addr) (n c d : Nat) (l k : List CZ) (w : World) (hl : ZS w (A, n, c) l) (hk : ZS w (B, n, d) k) (pl : ∀ x ∈ l, Sm x) (h : l.map CZ.ct = k.map CZ.ct) (hn : n ≤ 1000000) :
    Calls Try.prog 17 #[.slice A n c, .slice B n d] w fun e w' => e = .returned (.bool true) ∧ Below w.heap.size w w' := by
  have HL := keep hl
  have HK := keep hk
  have HH := keep h
  have PL := keep pl
  clear hl hk h pl
  go_enter Try.func17, Try.ntmps17
  go_wp2_with fail
  go_loopw [5] (fun i wr => ∃ j : Nat, j ≤ n ∧ i = .int .i64 j ∧ Hid (Below w.heap.size w wr)) (fun i _ => n - (intOf i).toNat)
  case atStart => exact ⟨0, Nat.zero_le _, rfl, keep (Below.refl _ _)⟩
  case round =>
    obtain ⟨j, hj, rfl, hno⟩ := hrel
    by_cases hlt : j < n
    · obtain ⟨b, o, x, hA, hbl, hat, hlj, hv⟩ := (HL.out.step hno.out).at_ (j := j) hlt
      obtain ⟨b', o', y, hB, hbl', hat', hlj', hv'⟩ := (HK.out.step hno.out).at_ (j := j) hlt
      dsimp only at hA hB
      subst hA hB
      have hlt' : (j : Int) < (n : Int) := by omega
      have hxy : x.ct = y.ct := by
        have := congrArg (fun z => z[j]?) HH.out
        simpa [hlj, hlj'] using this
      have K := fun w2 (hx : ZV w2 x) (hy : ZV w2 y) => same07_z (w := w2) x y ⟨hx, PL.out _ (List.mem_of_getElem? hlj)⟩ hy hxy
      have HX := keep hv
      have HY := keep hv'
      clear hlj hlj' hv hv' hxy
      obtain ⟨xk, xf, xa, xb, xo, xs, xp, ⟨x1, x2, x3⟩, ⟨x4, x5, x6⟩, ⟨x7, x8, x9⟩, ⟨x10, x11, x12⟩, ⟨x13, x14, x15⟩, xbl, xdu, xsk, xpr, xbs⟩ := x
      obtain ⟨yk, yf, ya, yb, yo, ys, yp, ⟨y1, y2, y3⟩, ⟨y4, y5, y6⟩, ⟨y7, y8, y9⟩, ⟨y10, y11, y12⟩, ⟨y13, y14, y15⟩, ybl, ydu, ysk, ypr, ybs⟩ := y
      dsimp only [Z12, CZ.cells] at hat hat' K HX HY
      obtain ⟨c0, c1, c2, c3, c4, c5, c6, c7, c8, c9, c10, c11⟩ := hat
      obtain ⟨d0, d1, d2, d3, d4, d5, d6, d7, d8, d9, d10, d11⟩ := hat'
      replace K := keep K
      go_wp2_with fail
      go_region_with (first
        | (go_at_call 49; refine (K.out _ (HX.out.step (Below.refl _ _).drew) (HY.out.step (Below.refl _ _).drew)).mono ?_; rintro e w2 ⟨rfl, hb⟩
           have B := keep (hno.out.drew.trans (hb.mono hno.out.size))
           clear hb))
      all_goals (try go_wp2_with fail)
      all_goals
        go_roundw
        case rel => exact ⟨j + 1, by omega, by go_num, B⟩
        case measure => simp [intOf]; omega
    · obtain rfl : n = j := by omega
      have B := keep hno.out
      go_wp2_with fail
      go_ret
      exact ⟨rfl, B.out⟩

set_option maxHeartbeats 2000000 in
theorem sameSkips_z (A B : Option Addr) (n c d : Nat) (l : List (Int × Int)) (w : World) (hl : LR blC w (A, n, c) l) (hk : LR blC w (B, n, d) l) (hn : n ≤ 1000000) :
    Calls Try.prog 29 #[.slice A n c, .slice B n d] w fun e w' => e = .returned (.bool true) ∧ ∃ q, w' = w.drewN q := by
  have HL := keep hl
  have HK := keep hk
  clear hl hk
  go_enter Try.func29, Try.ntmps29
  go_wp2_with fail
  go_loopw [5] (fun i wr => ∃ j q : Nat, j ≤ n ∧ i = .int .i64 j ∧ wr = w.drewN q) (fun i _ => n - (intOf i).toNat)
  case atStart => exact ⟨0, 0, Nat.zero_le _, rfl, rfl⟩
  case round =>
    obtain ⟨j, q, hj, rfl, rfl⟩ := hrel
    by_cases hlt : j < n
    · obtain ⟨g, o, p, hA, hp, v0, v1⟩ := pair_get (j := j) HL.out (Below.refl _ _) hlt
      obtain ⟨g', o', p', hB, hp', u0, u1⟩ := pair_get (j := j) HK.out (Below.refl _ _) hlt
      have hpp : p' = p := by rw [hp'] at hp; injection hp
      subst hpp
      have hjI : (j : Int) < (n : Int) := by omega
      have hj0 : (0 : Int) ≤ (j : Int) := by omega
      have hnI : (n : Int) ≤ 1000000 := by omega
      have hq1 : (p'.1 != p'.1) = false := by simp
      have hq2 : (p'.2 != p'.2) = false := by simp
      subst hA hB
      clear hp hp'
      go_wp2
      go_quiet (fail)
      go_wp2
      exact ⟨⟨j + 1, _, by omega, by go_num, rfl⟩, by simp [intOf]; omega⟩
    · obtain rfl : n = j := by omega
      go_wp2
      go_ret
      exact ⟨rfl, _, rfl⟩
end
end Go.Proofs.Ytffjdknmfmlfnaa
