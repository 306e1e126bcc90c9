/- The walk of the law JoinFree. -/
import Derived.Test.YthpcblbciidmeaaJS1
import Derived.Test.YthpcblbciidmeaaSr8
namespace Go.Proofs.Ythpcblbciidmeaa
open Go.RowKit Go.Maps
set_option linter.unusedVariables false

theorem CS.kept {S : Nat → Prop} {w w' : World} {A : Option Addr} {n c : Nat} {l : List CX} (h : CS w A n c l) (hp : Part S w w') (hA : ∀ a, A = some a → ¬ S a.block) (hd : ∀ y ∈ l, ∀ a, y.da.1 = some a → ¬ S a.block) (hpl : ∀ y ∈ l, Plain y) : CS w' A n c l := by
  refine ⟨h.1, h.2.1, hp.sr h.2.2.1 hA, fun y hy => ?_⟩
  have hv := h.2.2.2 y hy
  refine ⟨hv.kd, hv.fl, hv.a, hv.b, hv.ou, hv.si, hv.pp, ⟨hv.ps.1, hv.ps.2.1, ?_⟩, ⟨hv.bs.1, hv.bs.2.1, hp.sr hv.bs.2.2 (hd y hy)⟩⟩
  have h0 := hv.ps.1
  rw [(hpl y hy).2.2.2] at h0
  rw [show y.ps = [] from List.eq_nil_of_length_eq_zero h0.symm]
  exact SR.nil _ _
theorem c0_of {x : CX} {y : Ch} (h : x.ch = y) (hb : y.b = 0) : x.c0 = y := by
  rw [← h] at hb ⊢
  have hb : x.b = 0 := hb
  unfold CX.c0 CX.ch
  rw [hb]
/-- One message without order. -/
def pf (tsn : Int) (k : Nat) (bs : List UInt8) : Plan := ⟨1, k, fun _ => ⟨1, true, 9, bs⟩, fun _ => tsn, fun _ => 0⟩
theorem pf_ok (tsn : Int) {k : Nat} {bs : List UInt8} (hk : 0 < k) (h0 : 0 < bs.length) (h1 : bs.length ≤ 1000) : (pf tsn k bs).Ok := by
  refine ⟨hk, fun i _ => h0, fun i j hi hj _ => ?_, fun i q j r hi hq hj hr e => ?_, fun i _ => ⟨Int.le_refl _, (show (0 : Int) < 65536 by decide)⟩⟩
  · have hi : i < 1 := hi
    have hj : j < 1 := hj
    omega
  · have hi : i < 1 := hi
    have hj : j < 1 := hj
    have hq : q < cnt k bs.length := hq
    have hr : r < cnt k bs.length := hr
    have hc := cnt_le_n (n := bs.length) hk
    have e : (tsn + (q : Int)) % 4294967296 = (tsn + (r : Int)) % 4294967296 := e
    omega
structure TK (w0 : World) (b : Nat) (p : Plan) (A : Option Addr) (c : Nat) (l : List CX) (t : Nat) (G : Gh) (j : Jn) (wr : World) : Prop where
  jb : JB w0 wr G j
  b : G.b = b
  cs : CS wr A (p.N 0) c l
  na : ∀ a, A = some a → ¬ G.O a.block
  al : ∀ a, A = some a → a.block < wr.heap.size
  nd : ∀ y ∈ l, ∀ a, y.da.1 = some a → ¬ G.O a.block
  dl : ∀ y ∈ l, ∀ a, y.da.1 = some a → a.block < wr.heap.size
  pl : ∀ y ∈ l, Plain y
  tail : 0 < t → p.Tail j t
  oct : 0 < t → j.oct ≤ 1 + ((p.ms 0).da.length - t * p.k)
  done : t = 0 → j.rd = [p.ms 0]
theorem TK.to {w0 wr w' : World} {b : Nat} {p : Plan} {A : Option Addr} {c : Nat} {l : List CX} {t t' : Nat} {G G' : Gh} {j j' : Jn} (h : TK w0 b p A c l t G j wr) (hl : Later wr G w' G') (hj : JB w0 w' G' j') (h1 : 0 < t' → p.Tail j' t') (h2 : 0 < t' → j'.oct ≤ 1 + ((p.ms 0).da.length - t' * p.k)) (h3 : t' = 0 → j'.rd = [p.ms 0]) : TK w0 b p A c l t' G' j' w' :=
  ⟨hj, hl.b.trans h.b, h.cs.kept hl.part h.na h.nd h.pl, fun a e => hl.notO (h.al a e) (h.na a e), fun a e => Nat.lt_of_lt_of_le (h.al a e) hl.part.size, fun y hy a e => hl.notO (h.dl y hy a e) (h.nd y hy a e), fun y hy a e => Nat.lt_of_lt_of_le (h.dl y hy a e) hl.part.size, h.pl, h1, h2, h3⟩
theorem take_same {j : Jn} (h : j.rd = []) : takeJ j = j := by
  unfold takeJ
  rw [← h]
theorem TK.take {w0 wr w' : World} {b : Nat} {p : Plan} {A : Option Addr} {c : Nat} {l : List CX} {t : Nat} {G G' : Gh} {j : Jn} (h : TK w0 b p A c l (t + 1) G j wr) (hl : Later wr G w' G') (hj : JB w0 w' G' (takeJ j)) : TK w0 b p A c l (t + 1) G' j w' := by
  rw [take_same (h.tail (by omega)).rd] at hj
  exact h.to hl hj h.tail h.oct h.done
theorem TK.add {w0 wr w' : World} {b : Nat} {p : Plan} {A : Option Addr} {c : Nat} {l : List CX} {t : Nat} {G G' : Gh} {j j' : Jn} (h : TK w0 b p A c l (t + 1) G j wr) (hp : p.Ok) (hM : p.M = 1) (hu : (p.ms 0).un = true) (hs : (p.ms 0).st = 1) (hlen : (p.ms 0).da.length ≤ 1000) (ht : t < p.N 0) {r : Int} (hr : AddR j (p.c 0 t) r j') (hl : Later wr G w' G') (hj : JB w0 w' G' j') : r = 0 ∧ TK w0 b p A c l t G' j' w' := by
  have ho := h.oct (by omega)
  obtain ⟨he, hc⟩ := (h.tail (by omega)).step (j' := j') hp hM hu hs ht (by omega)
  obtain ⟨hr1, hr2, hr3⟩ := hr
  rw [he] at hr1
  subst hr1
  have hw := (came_wf (h.tail (by omega)).wf (hp.fits (i := 0) (q := t) (by omega)) he (hr3 rfl)).2.1
  have hd : (p.c 0 t).da.length = min p.k ((p.ms 0).da.length - t * p.k) := by
    show (piece p.k (p.ms 0).da t).length = _
    unfold piece
    rw [List.length_take, List.length_drop]
  obtain ⟨h1, h2⟩ := hc (hr3 rfl)
  refine ⟨rfl, h.to hl hj h1 (fun _ => ?_) fun h0 => (h2 h0).2⟩
  rw [Nat.add_mul, Nat.one_mul] at ho
  rw [hd] at hw
  omega
theorem MB.step {w w' : World} {g : Nat} {x : MX} (h : MB w g x) (hb : Below w.heap.size w w') : MB w' g x := (hb.block g h.lt).trans h
/-- Ahead of the pieces. -/
structure FS (w0 : World) (b : Nat) (p : Plan) (N : Nat) (G : Gh) (j : Jn) (wr : World) : Prop where
  jb : JB w0 wr G j
  b : G.b = b
  tail : p.Tail j N
  oct : j.oct ≤ 1
theorem FS.belo {w0 w wr : World} {b : Nat} {p : Plan} {N : Nat} {G : Gh} {j : Jn} (h : FS w0 b p N G j wr) (hb : Below w.heap.size w w0) : Below w.heap.size w wr := up hb h.jb.be
theorem tail_of {tsn : Int} {k : Nat} {bs : List UInt8} {N : Nat} {j : Jn} (hN : cnt k bs.length = N) (hw : Wf j) (hn : j.n = 2) (hc : j.ch = []) (hr : j.rd = []) : (pf tsn k bs).Tail j N := by
  refine ⟨hw, hn, fun x => ⟨fun hx => ?_, fun ⟨q, a, b, _⟩ => ?_⟩, hr⟩
  · rw [hc] at hx
    cases hx
  · have b : q < cnt k bs.length := b
    omega
theorem tail_new {tsn : Int} {k : Nat} {bs : List UInt8} {N : Nat} (hN : cnt k bs.length = N) : (pf tsn k bs).Tail (newJ 2) N := tail_of hN (Wf.new 2) rfl rfl rfl
theorem tail_wait {tsn : Int} {k : Nat} {bs : List UInt8} {N : Nat} (hN : cnt k bs.length = N) : (pf tsn k bs).Tail (comes (newJ 2) (pm 1 [b8 1]) 7) N :=
  tail_of hN (comes_wf (Wf.new 2) (show (0 : Int) ≤ 1 ∧ (1 : Int) < 2 by decide) (by decide)).1 rfl rfl rfl
theorem FS.tk {w0 w wr W w' : World} {b : Nat} {p : Plan} {N : Nat} {G : Gh} {j : Jn} (h : FS w0 b p N G j wr) (hW : Below wr.heap.size wr W) (hb : Below W.heap.size W w') {A : Option Addr} {c : Nat} {l : List CX} (hcs : CS w' A N c l) (hpl : ∀ x ∈ l, Plain x) (hda : ∀ y ∈ l, ∀ a, y.da.1 = some a → a.block < w.heap.size) (hb1 : Below w.heap.size w w0) (hnew : ∀ a, A = some a → W.heap.size ≤ a.block) (hN : 0 < N) (hp : p.N 0 = N) : TK w0 b p A c l N G j w' := by
  have hj := (h.jb.step hW).step hb
  have h1 := h.jb.be.size
  have h2 := hb1.size
  have h3 := hW.size
  have h4 := hb.size
  refine ⟨hj, h.b, by rw [hp]; exact hcs, fun a e ho => ?_, fun a e => ?_, fun y hy a e ho => ?_, fun y hy a e => ?_, hpl, fun _ => h.tail, fun _ => ?_, fun h0 => by omega⟩
  · have := h.jb.jg.ja.olt _ ho
    have := hnew a e
    omega
  · obtain ⟨g, o, x, e', hg, _⟩ := hcs.at_ hN
    rw [e] at e'
    injection e' with e'
    rw [e']
    exact hg
  · have := h.jb.ow _ ho
    have := hda y hy a e
    omega
  · have := hda y hy a e
    omega
  · have := h.oct
    omega
theorem joinFree_let (tsn : Int) (A : Option Addr) (n c : Nat) (most : Int) (wt : Bool) (w : World) (h : n = 0 ∨ 1000 < (n : Int) ∨ most < 1 ∨ 1172 < most) :
    Calls Try.prog 7 #[.int .u32 tsn, .slice A n c, .int .i64 most, .bool wt] w fun e w' => e = .returned (.bool true) ∧ Below w.heap.size w w' := by
  have K0 := keep (fun w => awake_any w)
  have h' : n = 0 ∨ (¬ n = 0 ∧ 1000 < (n : Int)) ∨ (¬ n = 0 ∧ ¬ 1000 < (n : Int) ∧ most < 1) ∨ (¬ n = 0 ∧ ¬ 1000 < (n : Int) ∧ ¬ most < 1 ∧ 1172 < most) := by omega
  clear h
  rcases h' with rfl | ⟨h0, h⟩ | ⟨h0, h1, h⟩ | ⟨h0, h1, h2, h⟩
  all_goals
    try have h0' : ((n : Int) == 0) = false := by (simp; omega)
    go_enter Try.func7, Try.ntmps7
    go_wp2_with (go_at_call 8; refine (K0.out _).mono ?_; rintro e w1 ⟨rfl, hb1⟩; replace hb1 := keep hb1)
    go_ret
    exact ⟨rfl, hb1.out⟩
set_option maxRecDepth 1000000 in
set_option maxHeartbeats 4000000 in
theorem joinFree_go (tsn : Int) (A : Option Addr) (n c : Nat) (bs : List UInt8) (k : Nat) (wt : Bool) (w : World) (ht : 0 ≤ tsn ∧ tsn < 4294967296) (hD : BS w A n c bs) (h0 : 0 < bs.length) (h1 : bs.length ≤ 1000) (hk : 0 < k) (hk2 : k ≤ 1172) :
    Calls Try.prog 7 #[.int .u32 tsn, .slice A n c, .int .i64 (k : Int), .bool wt] w fun e w' => e = .returned (.bool true) ∧ Below w.heap.size w w' := by
  have K0 := keep (fun w => awake_any w)
  have HP := keep (pf_ok tsn hk h0 h1)
  have HD := keep hD
  have HT := keep ht
  have HB := keep (And.intro h0 (And.intro h1 (And.intro hk hk2)))
  have hnl : n = bs.length := hD.len
  have q0 : ((n : Int) == 0) = false := by (simp; omega)
  have q1 : ¬ 1000 < (n : Int) := by omega
  have q2 : ¬ (k : Int) < 1 := by omega
  have q3 : ¬ 1172 < (k : Int) := by omega
  have HAL := keep (show ∀ a, A = some a → a.block < w.heap.size from fun a e => by
    obtain ⟨g, o, e', hlt, _⟩ := hD.br.sr (fun hc => absurd (show bs.length = 0 from by rw [← bc_length bs, hc]; rfl) (by omega))
    rw [e] at e'
    injection e' with e'
    rw [e']
    exact hlt)
  obtain ⟨a5, ha5⟩ : ∃ q, IntKind.u32.wrap (tsn - 5) = q := ⟨_, rfl⟩
  have HA5 := keep (show 0 ≤ a5 ∧ a5 < 4294967296 from by rw [← ha5, wrap_u32]; omega)
  obtain ⟨N, hN⟩ : ∃ N, cnt k bs.length = N := ⟨_, rfl⟩
  have HN := keep (show cnt k bs.length = N ∧ 0 < N ∧ N ≤ 1000 from ⟨hN, by rw [← hN]; exact cnt_pos hk h0, by rw [← hN]; exact Nat.le_trans (cnt_le_n hk) h1⟩)
  clear ht hD h0 h1 hk hk2 hnl hN
  have hN1 : IntKind.i64.wrap ((N : Int) - 1) = (N : Int) - 1 := by (simp [IntKind.wrap, IntKind.signed, IntKind.bits]; have := HN.out; omega)
  cases wt
  all_goals
    go_enter Try.func7, Try.ntmps7
    go_wp2_with (first
      | (go_at_call 8; refine (K0.out _).mono ?_; rintro e w1 ⟨rfl, hb1⟩; replace hb1 := keep hb1)
      | (go_at_call 9; refine (New_JB (Below.refl _ w1) 2).mono ?_; rintro e w2 ⟨G0, rfl, hj0, hb2, _⟩
         have HS := keep (show FS w1 G0.b (pf tsn k bs) N G0 (newJ 2) w2 from ⟨hj0, rfl, tail_new HN.out.1, by decide⟩)
         clear hj0 hb2)
      | (go_at_call 17; refine (piece_any _ (a := a5) (s := 1) (k := 7) (fl := 3) (d := 1) HA5.out (by decide) (by decide) (by decide) (by decide)).mono ?_
         rintro e w3 ⟨rfl, hx3, hb3, _⟩
         have KA := keep (Add_JB (HS.out.jb.step hb3) hx3 rfl)
         clear hx3 hb3
         dsimp only [oneC, CX.cells])
      | (go_at_call 10; refine KA.out.mono ?_
         rintro e w4 ⟨rfl, G4, hj4, hl4⟩
         replace HS := keep (show FS w1 G0.b (pf tsn k bs) N G4 _ w4 from ⟨hj4, hl4.b, tail_wait HN.out.1, Nat.le_of_ble_eq_true rfl⟩)
         clear hj4 hl4)
      | (go_at_call 15
         refine (refSplit_ok ⟨1, true, 9, (A, n, c), bs⟩ tsn 0 k _ ⟨(show (0 : Int) ≤ 1 ∧ (1 : Int) < 65536 by decide), (show (0 : Int) ≤ 9 ∧ (9 : Int) < 4294967296 by decide), (HD.out.step (HS.out.belo hb1.out)).step (below_lay _ _)⟩ HT.out (by decide) HB.out.2.2.1 HB.out.2.2.2 HB.out.1 (by have := HB.out.2.1; show bs.length ≤ 2000; omega)).mono ?_
         rintro e w5 ⟨A5, c5, l5, he5, hcs5, hpl5, hl5, hb5, hda5, hnew5⟩
         have he5 : e = .returned (.tuple #[.slice A5 (cnt k bs.length) c5, .int .i64 0]) := he5
         rw [HN.out.1] at he5
         subst he5
         have hcs5' : CS w5 A5 N c5 l5 := by rw [← HN.out.1]; exact hcs5
         have HK := keep (HS.out.tk (below_lay _ _) hb5 hcs5' hpl5 (fun y hy a e => by
           obtain ⟨a0, e0, e1⟩ := hda5 y hy a e
           rw [← e1]
           exact HAL.out a0 e0) hb1.out hnew5 HN.out.2.1 HN.out.1)
         have HL5 := keep hl5
         have M5 := (show MB (World.alloc _ _) _ (⟨1, true, 9, (A, n, c), bs⟩ : MX) from heap_alloc_new _ _).step hb5
         have NM := fun hc => Nat.lt_irrefl _ (HS.out.jb.jg.ja.olt _ hc)
         clear hcs5 hcs5' hpl5 hl5 hb5 hda5 hnew5))
  all_goals
    have HM5 := keep (And.intro M5 NM)
    clear M5 NM
    first
      | generalize w4.heap.size = gm at *
      | generalize w2.heap.size = gm at *
    clear HS
    try clear KA
    go_loopw [14] (fun iv wr => ∃ (t : Nat) (G1 : Gh) (j1 : Jn), iv = .int .i64 ((t : Int) - 1) ∧ t ≤ N ∧ Hid (TK w1 G0.b (pf tsn k bs) A5 c5 l5 t G1 j1 wr ∧ MB wr gm ⟨1, true, 9, (A, n, c), bs⟩ ∧ ¬ G1.O gm)) (fun iv _ => (intOf iv + 1).toNat)
    case atStart => exact ⟨N, _, _, rfl, Nat.le_refl _, keep ⟨HK.out, HM5.out.1, HM5.out.2⟩⟩
    case round =>
      obtain ⟨t, G1, j1, rfl, ht, HR⟩ := hrel
      have KT := Take_JB HR.out.1.jb
      rw [HR.out.1.b] at KT
      replace KT := keep KT
      cases t with
      | succ q =>
        have hq : (((q + 1 : Nat) : Int) - 1) = (q : Int) := by omega
        have hqp : ¬ (q : Int) < 0 := by omega
        have hq2 : IntKind.i64.wrap ((q : Int) - 1) = (q : Int) - 1 := by (simp [IntKind.wrap, IntKind.signed, IntKind.bits]; have := HN.out; omega)
        have HQ := keep (show q < N from ht)
        rw [hq]
        go_wp2_with (first
          | (go_at_call 13; refine KT.out.mono ?_
             rintro e w6 ⟨A6, m6, c6, l6, G6, rfl, hm6, hv6, hr6, ho6, hj6, hl6⟩
             obtain rfl : m6 = 0 := by
               have h1 := congrArg List.length (hr6.trans (HR.out.1.tail (by omega)).rd)
               rw [List.length_map] at h1
               rw [hm6.1, h1]
               rfl
             have HK6 := keep (HR.out.1.take hl6 hj6)
             obtain ⟨g, og, x, eA, hg, hat, hx, hcv⟩ := HK6.out.cs.at_ (j := q) (by show q < cnt k bs.length; rw [HN.out.1]; exact HQ.out)
             have hxc : x.c0 = (pf tsn k bs).c 0 q := by
               have h1 := congrArg (fun z => z[q]?) HL5.out
               simp only [List.getElem?_map, hx, Option.map_some] at h1
               have h2 := splitL_some h1.symm
               exact c0_of h2.2 rfl
             have KA6 := Add_gen HK6.out.jb hcv
             rw [HK6.out.b] at KA6
             replace KA6 := keep KA6
             have HXC := keep hxc
             have M6 := keep (show MB w6 gm ⟨1, true, 9, (A, n, c), bs⟩ ∧ ¬ G6.O gm from ⟨(hl6.new HR.out.2.1.lt HR.out.2.2).trans HR.out.2.1, hl6.notO HR.out.2.1.lt HR.out.2.2⟩)
             subst eA
             obtain ⟨xk, xf, xa, xb, xo, xs, xp, ⟨x1, x2, x3⟩, ⟨x4, x5, x6⟩, ⟨x7, x8, x9⟩, ⟨x10, x11, x12⟩, ⟨x13, x14, x15⟩, xps, xbs⟩ := x
             dsimp only [At12, CX.cells] at hat KA6
             obtain ⟨d0, d1, d2, d3, d4, d5, d6, d7, d8, d9, d10, d11⟩ := hat
             clear hm6 hv6 hr6 ho6 hj6 hl6 hx hcv hxc)
          | (go_at_call 10; refine KA6.out.mono ?_
             rintro e w7 ⟨r7, j7, G7, rfl, hr7, hj7, hl7⟩
             rw [HXC.out] at hr7
             obtain ⟨rfl, hK7⟩ := HK6.out.add HP.out rfl rfl rfl HB.out.2.1 (by show q < cnt k bs.length; rw [HN.out.1]; exact HQ.out) hr7 hl7 hj7
             have HK7 := keep (And.intro hK7 (And.intro ((hl7.new M6.out.1.lt M6.out.2).trans M6.out.1) (hl7.notO M6.out.1.lt M6.out.2)))
             clear hr7 hj7 hl7 hK7 d0 d1 d2 d3 d4 d5 d6 d7 d8 d9 d10 d11))
        go_roundw
        case rel => exact ⟨q, G7, j7, by go_num, Nat.le_of_lt HQ.out, HK7⟩
        case measure => (simp [intOf] <;> omega)
      | zero =>
        have hq : (((0 : Nat) : Int) - 1) = (-1 : Int) := by omega
        rw [hq]
        have HWX := keep (show MV wr ⟨1, true, 9, (A, n, c), bs⟩ from ⟨(show (0 : Int) ≤ 1 ∧ (1 : Int) < 65536 by decide), (show (0 : Int) ≤ 9 ∧ (9 : Int) < 4294967296 by decide), HD.out.step (up hb1.out HR.out.1.jb.be)⟩)
        go_wp2_with (first
          | (go_at_call 13; refine KT.out.mono ?_
             rintro e w6 ⟨A6, m6, c6, l6, G6, rfl, hm6, hv6, hr6, ho6, hj6, hl6⟩
             have hr6' : l6.map MX.msg = [⟨1, true, 9, bs⟩] := hr6.trans (HR.out.1.done rfl)
             obtain rfl : m6 = 1 := by
               have h1 := congrArg List.length hr6'
               rw [List.length_map] at h1
               rw [hm6.1, h1]
               rfl
             obtain ⟨g, og, x, eA, hg, hat, hx⟩ := hm6.at_ (j := 0) (by decide)
             have hxm : x.msg = ⟨1, true, 9, bs⟩ := by
               have h1 := congrArg (fun z => z[0]?) hr6'
               simpa [hx] using h1
             have hxv := (hv6 x (List.mem_of_getElem? hx)).1
             have M6 := (hl6.new HR.out.2.1.lt HR.out.2.2).trans HR.out.2.1
             have KS6 := keep fun W (hb : Below w6.heap.size w6 W) => refSameM_any x ⟨1, true, 9, (A, n, c), bs⟩ W (hxv.step hb) ((show MV w6 ⟨1, true, 9, (A, n, c), bs⟩ from ⟨(show (0 : Int) ≤ 1 ∧ (1 : Int) < 65536 by decide), (show (0 : Int) ≤ 9 ∧ (9 : Int) < 4294967296 by decide), HD.out.step (up hb1.out hj6.be)⟩).step hb)
             have HSM := keep (show sameM x.msg (⟨1, true, 9, (A, n, c), bs⟩ : MX).msg = true from sameM_iff.2 hxm)
             have HJ6 := keep (And.intro hj6 (hl6.b.trans HR.out.1.b))
             obtain ⟨⟨m0, m1, m2, m3⟩, _⟩ := (show MB w6 gm ⟨1, true, 9, (A, n, c), bs⟩ from M6).all
             have ho6' := fun a e => (ho6 a e).1
             have NM6 := hl6.notO HR.out.2.1.lt HR.out.2.2
             have M6 := (show MB w6 gm ⟨1, true, 9, (A, n, c), bs⟩ from M6)
             subst eA
             obtain ⟨xs, xu, xp, ⟨x1, x2, x3⟩, xb⟩ := x
             rw [Nat.zero_mul, Nat.add_zero] at hat
             obtain ⟨d0, d1, d2, d3⟩ := hat
             dsimp only [MX.cells] at d0 d1 d2 d3 m0 m1 m2 m3 KS6
             clear hm6 hv6 hr6 hr6' ho6 hj6 hl6 hx hxm hxv))
        have NG := keep (And.intro (ho6' _ rfl) (And.intro NM6 (And.intro hg M6.lt)))
        clear ho6' NM6 hg M6
        go_region_held3 (fun w' => (w'.cell? ⟨g, og, none⟩ = some (.int .u16 xs) ∧ w'.cell? ⟨g, og + 1, none⟩ = some (.bool xu) ∧ w'.cell? ⟨g, og + 2, none⟩ = some (.int .u32 xp) ∧ w'.cell? ⟨g, og + 3, none⟩ = some (.slice x1 x2 x3)) ∧ (w'.cell? ⟨gm, 0, none⟩ = some (.int .u16 1) ∧ w'.cell? ⟨gm, 1, none⟩ = some (.bool true) ∧ w'.cell? ⟨gm, 2, none⟩ = some (.int .u32 9) ∧ w'.cell? ⟨gm, 3, none⟩ = some (.slice A n c)))
          (first | exact ⟨⟨d0, d1, d2, d3⟩, m0, m1, m2, m3⟩ | exact q8 | exact q9)
          (first
          | (go_at_call 18; refine (KS6.out _ (Below.refl _ _).drew).mono ?_
             rintro e w8 ⟨rfl, hb8⟩
             rw [HSM.out]
             have hb8' := (show Below w6.heap.size w6 w8 from ((Below.refl _ w6).drew).trans hb8)
             have q8 := And.intro (And.intro ((hb8'.cell (p := ⟨g, og, none⟩) NG.out.2.2.1).trans d0) (And.intro ((hb8'.cell (p := ⟨g, og + 1, none⟩) NG.out.2.2.1).trans d1) (And.intro ((hb8'.cell (p := ⟨g, og + 2, none⟩) NG.out.2.2.1).trans d2) ((hb8'.cell (p := ⟨g, og + 3, none⟩) NG.out.2.2.1).trans d3)))) (And.intro ((hb8'.cell (p := ⟨gm, 0, none⟩) NG.out.2.2.2).trans m0) (And.intro ((hb8'.cell (p := ⟨gm, 1, none⟩) NG.out.2.2.2).trans m1) (And.intro ((hb8'.cell (p := ⟨gm, 2, none⟩) NG.out.2.2.2).trans m2) ((hb8'.cell (p := ⟨gm, 3, none⟩) NG.out.2.2.2).trans m3))))
             have KT2 := Take_JB (HJ6.out.1.step hb8')
             rw [HJ6.out.2] at KT2
             replace KT2 := keep KT2
             have HS8 := keep hb8'.size
             clear hb8 hb8')
          | (go_at_call 13; refine KT2.out.mono ?_
             rintro e w9 ⟨A9, m9, c9, l9, G9, rfl, hm9, hv9, hr9, ho9, hj9, hl9⟩
             obtain rfl : m9 = 0 := by
               have h1 := congrArg List.length hr9
               rw [List.length_map] at h1
               rw [hm9.1, h1]
               rfl
             have HB9 := keep hj9.be
             have eg := hl9.new (Nat.lt_of_lt_of_le NG.out.2.2.1 HS8.out) NG.out.1
             have em := hl9.new (Nat.lt_of_lt_of_le NG.out.2.2.2 HS8.out) NG.out.2.1
             have q9 := And.intro (And.intro ((World.cell?_of_block (a := ⟨g, og, none⟩) eg).trans q8.1.1) (And.intro ((World.cell?_of_block (a := ⟨g, og + 1, none⟩) eg).trans q8.1.2.1) (And.intro ((World.cell?_of_block (a := ⟨g, og + 2, none⟩) eg).trans q8.1.2.2.1) ((World.cell?_of_block (a := ⟨g, og + 3, none⟩) eg).trans q8.1.2.2.2)))) (And.intro ((World.cell?_of_block (a := ⟨gm, 0, none⟩) em).trans q8.2.1) (And.intro ((World.cell?_of_block (a := ⟨gm, 1, none⟩) em).trans q8.2.2.1) (And.intro ((World.cell?_of_block (a := ⟨gm, 2, none⟩) em).trans q8.2.2.2.1) ((World.cell?_of_block (a := ⟨gm, 3, none⟩) em).trans q8.2.2.2.2))))
             clear hm9 hv9 hr9 ho9 hj9 hl9 eg em))
        all_goals go_wp2
        all_goals (go_ret; exact ⟨rfl, up hb1.out HB9.out⟩)
theorem joinFree_walk (tsn : Int) (A : Option Addr) (n c : Nat) (bs : List UInt8) (most : Int) (wt : Bool) (w : World) (ht : (Lit.int .u32 tsn).wf = true) (hD : BS w A n c bs) (_ : (Lit.int .i64 most).wf = true) :
    Calls Try.prog 7 #[.int .u32 tsn, .slice A n c, .int .i64 most, .bool wt] w fun e w' => e = .returned (.bool true) ∧ Below w.heap.size w w' := by
  by_cases h : n = 0 ∨ 1000 < (n : Int) ∨ most < 1 ∨ 1172 < most
  · exact joinFree_let tsn A n c most wt w h
  · obtain ⟨k, rfl⟩ : ∃ k : Nat, most = k := ⟨most.toNat, by omega⟩
    have hl := hD.len
    exact joinFree_go tsn A n c bs k wt w (of_wf32 ht) hD (by omega) (by omega) (by omega) (by omega)
end Go.Proofs.Ythpcblbciidmeaa
