/- Package xfer: one End that sends messages of zeros. (Uses take_new Tk room_octs xDue_any xNext_any and_i64 and1023 open_nums NS NS.at_ NS.step wrap_small ret_bool ret_int bc_zeros BS.of_own xNew_any pair_any awakeX Dist_any RowP RowP.sr RowP.step own_row_at own_mono own_step flatF_get LR.of_own ZS ZS.at_ ZV.step CZ.len Frame laidOut ret_bool wrap_u32 take_nums flr nums_of Nums octsL_all octsL_none octsL_app tkQ xTell_calm xSend_any.) -/
import Derived.Test.YtnlkdlnmffibhaaGreatKBM
import Derived.Test.YtnlkdlnmffibhaaGreatKAL
namespace Go.Proofs.YtnlkdlnmffibhaaGreat
open Go.RowKit Go.Maps
set_option linter.unusedVariables false
set_option maxRecDepth 8000

theorem pieces_sum {k : Nat} (bs : List UInt8) : ∀ c, ((List.range c).map fun i => (piece k bs i).length).sum + (bs.length - c * k) = bs.length
  | 0 => by simp
  | c + 1 => by
    rw [List.range_succ, List.map_append, List.sum_append]
    have h3 := pieces_sum (k := k) bs c
    have h1 : (piece k bs c).length = min k (bs.length - c * k) := by unfold piece; rw [List.length_take, List.length_drop]
    simp only [List.map_cons, List.map_nil, List.sum_cons, List.sum_nil]
    rw [h1]
    have h2 : (c + 1) * k = c * k + k := Nat.succ_mul c k
    omega
theorem new_lens {M : Msg} {ssn : Int} {k : Nat} {q : Qm} {new : List En} {m : Nat} (h : NewE M ssn k q new m) : new.map lenE = (List.range (cnt k M.da.length)).map fun i => (piece k M.da i).length := by
  apply List.ext_getElem?
  intro i
  rw [List.getElem?_map, List.getElem?_map]
  by_cases hi : i < new.length
  · rw [List.getElem?_eq_getElem hi, List.getElem?_range (by rw [← h.len]; exact hi)]
    exact congrArg some (h.all i _ (List.getElem?_eq_getElem hi)).2.1
  · rw [List.getElem?_eq_none (by omega), List.getElem?_eq_none (by rw [List.length_range, ← h.len]; omega)]
    rfl
/-- What waits behind j messages: pieces of lo to k octets, mx of a message at most, mb octets of it at most. -/
structure SnQ (a : Int) (lo k mx mb j : Nat) (q : Qm) : Prop where
  st : ∀ e ∈ q.es, e.st = 0
  pl : ∀ e ∈ q.es, q.mg e.m = ⟨-1, -1, false⟩
  ln : ∀ e ∈ q.es, lo ≤ lenE e ∧ lenE e ≤ k
  nx : q.nx = (a + (q.es.length : Int)) % 4294967296
  ge : j ≤ q.es.length
  le : q.es.length ≤ j * mx
  sm : (q.es.map lenE).sum ≤ j * mb
  z0 : j = 0 → q.es = []
theorem SnQ.plain {a : Int} {lo k mx mb j : Nat} {q : Qm} (h : SnQ a lo k mx mb j q) : PlainQ q := fun e he => ⟨h.pl e he, .inl (h.st e he)⟩
theorem SnQ.octs0 {a : Int} {lo k mx mb j : Nat} {q : Qm} (h : SnQ a lo k mx mb j q) : octs q.es [1] = 0 := by
  rw [octs_eq]
  exact octsL_none fun e he => by rw [h.st e he]; decide
theorem SnQ.octs2 {a : Int} {lo k mx mb j : Nat} {q : Qm} (h : SnQ a lo k mx mb j q) : octs q.es [2, 0] ≤ j * mb := by
  rw [octs_eq, octsL_all fun e he => by rw [h.st e he]; decide]
  exact h.sm
theorem SnQ.push {a : Int} {lo k mx mb j : Nat} {q : Qm} (h : SnQ a lo k mx mb j q) {bs : List UInt8} {ssn : Int} {new : List En} {m : Nat} (hn : NewE ⟨0, false, 0, bs⟩ ssn k q new m) (hk : 0 < k) (h0 : 0 < bs.length) (hmx : cnt k bs.length ≤ mx) (hmb : bs.length ≤ mb) (hlo : ∀ i, i < cnt k bs.length → lo ≤ (piece k bs i).length) :
    SnQ a lo k mx mb (j + 1) (pushQ q new m (-1) (-1)) := by
  have hl : new.length = cnt k bs.length := hn.len
  have hall : ∀ e ∈ new, e.st = 0 ∧ e.m = m ∧ lo ≤ lenE e ∧ lenE e ≤ k := fun e he => by
    obtain ⟨i, hi⟩ := List.getElem?_of_mem he
    obtain ⟨_, h2, h3, h4, _⟩ := hn.all i e hi
    have h5 : i < cnt k bs.length := by rw [← hl]; exact (List.getElem?_eq_some_iff.1 hi).1
    exact ⟨h4, h3, by rw [h2]; exact hlo i h5, by rw [h2]; exact (piece_in hk h5).2⟩
  have hc := cnt_pos hk h0
  have hs : (new.map lenE).sum ≤ bs.length := by
    have h1 := congrArg List.sum (new_lens hn)
    have h2 := pieces_sum (k := k) bs (cnt k bs.length)
    dsimp only at h1
    omega
  refine ⟨fun e he => ?_, fun e he => ?_, fun e he => ?_, ?_, ?_, ?_, ?_, fun h9 => by omega⟩
  · rcases List.mem_append.1 (show e ∈ q.es ++ new from he) with he | he
    · exact h.st e he
    · exact (hall e he).1
  · show (if e.m = m then (⟨-1, -1, false⟩ : Mg) else q.mg e.m) = _
    by_cases hm : e.m = m
    · rw [if_pos hm]
    · rw [if_neg hm]
      rcases List.mem_append.1 (show e ∈ q.es ++ new from he) with he | he
      · exact h.pl e he
      · exact absurd (hall e he).2.1 hm
  · rcases List.mem_append.1 (show e ∈ q.es ++ new from he) with he | he
    · exact h.ln e he
    · exact (hall e he).2.2
  · show (q.nx + (new.length : Int)) % 4294967296 = (a + ((q.es ++ new).length : Int)) % 4294967296
    rw [h.nx, List.length_append]
    omega
  · show j + 1 ≤ (q.es ++ new).length
    have := h.ge
    rw [List.length_append]
    omega
  · show (q.es ++ new).length ≤ (j + 1) * mx
    have := h.le
    rw [List.length_append, Nat.succ_mul]
    omega
  · show ((q.es ++ new).map lenE).sum ≤ (j + 1) * mb
    have := h.sm
    rw [List.map_append, List.sum_append, Nat.succ_mul]
    omega
/-- Without room nothing more is taken. -/
theorem take_dry {now : Int} {n : Nat} : ∀ (k i : Nat) (es : List En) (t : List CZ), es.length = n → (∀ e ∈ es, 0 < lenE e) → takeGo now n k i es 0 t = (es, t)
  | 0, i, es, t, _, _ => rfl
  | k + 1, i, es, t, hl, hp => by
    cases he : es[ixD n i]? with
    | none => rw [takeGo, he]
    | some e =>
      by_cases hs : e.st = phD n i
      · exact takeGo_full he hs (by
          have h1 := hp e (List.mem_of_getElem? he)
          unfold lenE at h1
          omega)
      · rw [takeGo_no he hs]
        exact take_dry k (i + 1) es t hl hp
/-- An End that was made in this call. -/
structure OE (w W : World) (g : Xg) (x : Xm) : Prop where
  a : XA W g x
  lx : ∀ i, g.O i → w.heap.size ≤ i
  be : Below w.heap.size w W
section
variable {w W W' : World} {g g' : Xg} {x z : Xm}
theorem OE.step (h : OE w W g x) (hb : Below W.heap.size W W') : OE w W' g x := ⟨h.a.step hb, h.lx, h.be.trans (hb.mono h.be.size)⟩
theorem OE.up (h : OE w W g x) (hz : XA W' g' z) (hl : Xl W g W' g') : OE w W' g' z :=
  ⟨hz, fun i hi => by
    rcases hl.o i hi with h3 | h3
    · exact h.lx i h3
    · exact Nat.le_trans h.be.size h3, h.be.trans (hl.part.below h.be.size h.lx)⟩
end
/-- It has taken j messages, and has told nothing yet. -/
structure S1 (w : World) (b : Nat) (a mt pe : Int) (lo k mx mb j : Nat) (W : World) (g : Xg) (x : Xm) : Prop where
  oe : OE w W g x
  b : g.b = b
  sq : SnQ a lo k mx mb j x.q
  ws : x.ws = WS.start mt
  wa : x.rs.wa = 3000
  ru : x.ru = false
  ow : x.ow = false
  pe : x.pe = pe
  nl : x.nl[0]? = some (j : Int)
theorem S1.step {w W W' : World} {b : Nat} {a mt pe : Int} {lo k mx mb j : Nat} {g : Xg} {x : Xm} (h : S1 w b a mt pe lo k mx mb j W g x) (hb : Below W.heap.size W W') : S1 w b a mt pe lo k mx mb j W' g x := ⟨h.oe.step hb, h.b, h.sq, h.ws, h.wa, h.ru, h.ow, h.pe, h.nl⟩
theorem s1_new {w W : World} {g : Xg} {a p r i m : Int} {n lo k mx mb : Nat} (h : OE w W g (x0 a p r i m n)) (ha : 0 ≤ a ∧ a < 4294967296) (hn : 0 < n) : S1 w g.b a m r lo k mx mb 0 W g (x0 a p r i m n) :=
  ⟨h, rfl, ⟨(fun e he => by cases he), (fun e he => by cases he), (fun e he => by cases he), (by show a = (a + 0) % 4294967296; omega), Nat.zero_le _, Nat.zero_le _, Nat.zero_le _, fun _ => rfl⟩, rfl, rfl, rfl, rfl, rfl, by
    show (List.replicate n (0 : Int))[0]? = _
    rw [List.getElem?_replicate, if_pos hn]
    rfl⟩
theorem S1.send {w W : World} {b : Nat} {a mt pe : Int} {lo k mx mb j : Nat} {g : Xg} {x : Xm} (h : S1 w b a mt pe lo k mx mb j W g x) (hk : max 1 (min 1172 ((WS.start mt).mt - 28)) = (k : Int)) (hmt : 0 ≤ (WS.start mt).mt ∧ (WS.start mt).mt ≤ 65536) (hj : j < 60) (hsz : 60 * mx ≤ 1024 ∧ 60 * mb ≤ 65536)
    {d1 : Option Addr} {d2 d3 : Nat} {bs : List UInt8} (hbs : BS W d1 d2 d3 bs) (h0 : 0 < bs.length) (h2 : bs.length ≤ 2000) (hmx : cnt k bs.length ≤ mx) (hmb : bs.length ≤ mb) (hlo : ∀ i, i < cnt k bs.length → lo ≤ (piece k bs i).length) (now : Int) :
    Calls Tryz.prog 7 #[.pointer (some ⟨b, 0, none⟩), .agg #[.int .u16 0, .bool false, .int .u32 0, .slice d1 d2 d3], .int .i64 (-1), .int .i64 (-1), .int .i64 now] W fun e w' => e = .returned (.int .i64 0) ∧ ∃ g' x', Hid (S1 w b a mt pe lo k mx mb (j + 1) w' g' x') := by
  have hm1 : j * mx + mx ≤ 60 * mx := by rw [← Nat.succ_mul]; exact Nat.mul_le_mul_right _ hj
  have hm2 : j * mb + mb ≤ 60 * mb := by rw [← Nat.succ_mul]; exact Nat.mul_le_mul_right _ hj
  have hb := h.b
  subst hb
  have hk0 : 0 < k := by omega
  have ho := h.sq.octs2
  have hle := h.sq.le
  refine (xSend_any h.oe.a (s := 0) (pp := 0) (by decide) (by decide) hbs h.nl (by omega) (k := k) (by rw [h.ws]; exact hk) (by rw [h.ws]; exact hmt) h0 h2 (by omega) (by omega) now).mono ?_
  rintro e w' ⟨rfl, Q', new, m, hh⟩
  obtain ⟨h3, h4, h5⟩ := hh.out
  refine ⟨rfl, { g with Q := Q' }, _, keep ⟨h.oe.up h3 h4, rfl, h.sq.push h5 hk0 h0 hmx hmb hlo, h.ws, h.wa, h.ru, h.ow, h.pe, ?_⟩⟩
  show (x.nl.set 0 ((j : Int) + 1))[0]? = _
  rw [List.getElem?_set_self (List.getElem?_eq_some_iff.1 h.nl).1]
  rfl
end Go.Proofs.YtnlkdlnmffibhaaGreat
