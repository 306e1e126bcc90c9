/- Law 19: what a party's queue is while others publish and it pulls, where some may be lost (for TopicParts). -/
import Derived.Test.YtnbicbnighpkjaaYM
namespace Go.Proofs.Ytnbicbnighpkjaa
open Go.RowKit Go.Maps
set_option linter.unusedVariables false
set_option linter.unusedSimpArgs false

/-- Party 1 hears in mode md: ns waits, lost were lost, cnt were published. -/
structure PM (md : Int) (rm : Nat) (ns : List Nat) (lost cnt : Nat) (M : Mo) : Prop where
  np : M.np = 3
  room : M.room = rm
  u : M.u ≤ 2 + cnt
  p0 : ∃ x, M.P 0 = some x
  p1 : ∃ x, M.P 1 = some x ∧ x.sub tS = some (md, false) ∧ x.ws = ns.map itm ∧ x.lost = lost
  p2 : M.P 2 = none
  nn : M.N tS = cnt
section
variable {md : Int} {rm lost cnt : Nat} {ns : List Nat} {M : Mo}
theorem PM.pub (h : PM md rm ns lost cnt M) (hr : 1 ≤ rm) (hmd : md = 1 ∨ md = 2) (hl : ns.length ≤ rm) : pubE M 0 tS 1 = 0 ∧
    ∃ ns' lost', PM md rm ns' lost' (cnt + 1) (pubM M 0 tS false [b8 (cnt : Int)]) ∧ ((ns' = ns ++ [cnt] ∧ lost' = lost) ∨ (md = 1 ∧ ns' = ns ∧ lost' = lost + 1 ∧ ns ≠ []) ∨ (md = 2 ∧ ns' = ns.tail ++ [cnt] ∧ lost' = lost + 1 ∧ ns ≠ [])) := by
  obtain ⟨x0, h0⟩ := h.p0
  obtain ⟨x, h1, hs, hw, hlo⟩ := h.p1
  obtain ⟨e1, e2, e3⟩ := pub_ok (M := M) (n := 0) (by rw [h.np]; decide) h0 (s := tS) ⟨by decide, by decide⟩ false (bs := [b8 (cnt : Int)]) (show 1 ≤ 16384 by decide)
  have e2' : pubM M 0 tS false [b8 (cnt : Int)] = handTo (pubN M tS) (itm cnt) 3 := by
    have : pubM M 0 tS false [b8 (cnt : Int)] = handTo (pubN M tS) (pubI M 0 tS false [b8 (cnt : Int)]) M.np := e2
    rw [this, pubI_itm h.nn, h.np]
  have hN1 : (pubN M tS).P 1 = some x := h1
  have hN2 : (pubN M tS).P 2 = none := h.p2
  have hNr : (pubN M tS).room = rm := h.room
  obtain ⟨t0, t1, t2⟩ := handTo3 (M := pubN M tS) (y := itm cnt) rfl hN2 hN1
  rw [hNr] at t1
  have base : ∀ (ns' : List Nat) (lost' : Nat), (takeP x rm (itm cnt)).sub tS = some (md, false) → (takeP x rm (itm cnt)).ws = ns'.map itm → (takeP x rm (itm cnt)).lost = lost' → PM md rm ns' lost' (cnt + 1) (pubM M 0 tS false [b8 (cnt : Int)]) := fun ns' lost' a1 a2 a3 => by
    rw [e2']
    exact ⟨h.np, h.room, by show M.u + 1 ≤ _; have := h.u; omega, ⟨x0, t0.trans h0⟩, ⟨_, t1, a1, a2, a3⟩, t2, by show (if tS = tS then M.N tS + 1 else M.N tS) = _; rw [if_pos rfl, h.nn]⟩
  have hlen : x.ws.length = ns.length := by rw [hw, List.length_map]
  refine ⟨e1, ?_⟩
  by_cases hlt : ns.length < rm
  · obtain ⟨k1, _⟩ := take_room (x := x) (room := rm) (y := itm cnt) hs (by rw [hlen]; exact hlt)
    rw [k1] at base
    exact ⟨ns ++ [cnt], lost, base _ _ hs (by dsimp only; rw [hw, List.map_append]; rfl) hlo, .inl ⟨rfl, rfl⟩⟩
  · have hne : ns ≠ [] := by intro e; rw [e] at hlt; simp at hlt; omega
    have hnl : ¬ x.ws.length < rm := by rw [hlen]; exact hlt
    have tk : ∀ (z : Bool), fullB x tS md = z → takeP x rm (itm cnt) = if z = true then { fullP x tS md with ws := (fullP x tS md).ws ++ [itm cnt] } else fullP x tS md := fun z hz => by
      unfold takeP
      rw [show (itm cnt).tp = tS from rfl, hs]
      dsimp only
      rw [if_neg (show ¬ (false = true) by decide), if_neg hnl, hz]
    rcases hmd with rfl | rfl
    · have k := tk false rfl
      rw [if_neg (show ¬ (false = true) by decide)] at k
      have f : fullP x tS 1 = { x with lost := x.lost + 1 } := rfl
      rw [k, f] at base
      exact ⟨ns, lost + 1, base _ _ hs hw (by dsimp only; rw [hlo]), .inr (.inl ⟨rfl, rfl, rfl, hne⟩)⟩
    · obtain ⟨v, r, hvr⟩ : ∃ v r, ns = v :: r := by
        cases ns with
        | nil => exact absurd rfl hne
        | cons v r => exact ⟨v, r, rfl⟩
      have hix : x.ws.findIdx (fun y => sq y.tp tS) = 0 := by
        rw [hw, hvr, List.map_cons, List.findIdx_cons]
        have : sq (itm v).tp tS = true := sq_iff.2 rfl
        rw [this]
        rfl
      have hB : fullB x tS 2 = true := by
        unfold fullB
        rw [if_neg (by decide), if_neg (by decide), hix]
        apply decide_eq_true
        rw [hw, hvr]
        simp
      have hP : fullP x tS 2 = { x with lost := x.lost + 1, ws := r.map itm } := by
        unfold fullP
        rw [if_neg (by decide), if_neg (by decide), hix, hw, hvr]
        rfl
      have k := tk true hB
      rw [if_pos rfl, hP] at k
      rw [k] at base
      exact ⟨ns.tail ++ [cnt], lost + 1, base _ _ hs (by dsimp only; rw [hvr, List.tail_cons, List.map_append]; rfl) (by dsimp only; rw [hlo]), .inr (.inr ⟨rfl, rfl, rfl, hne⟩)⟩
theorem PM.failed (h : PM md rm ns lost cnt M) : failedB M 1 tS = false := by
  obtain ⟨x, h1, hs, hw⟩ := h.p1
  unfold failedB
  rw [show M.at 1 = M.P 1 from at_nat M 1, h1]
  dsimp only
  rw [hs]
theorem PM.lost_ (h : PM md rm ns lost cnt M) : lostN M 1 = lost := by
  obtain ⟨x, h1, hs, hw, hl⟩ := h.p1
  unfold lostN
  rw [show M.at 1 = M.P 1 from at_nat M 1, h1]
  exact hl
theorem PM.pull {v : Nat} {r : List Nat} (h : PM md rm (v :: r) lost cnt M) : pullI M 1 = itm v ∧ pullB M 1 = true ∧ PM md rm r lost cnt (pullM M 1) := by
  obtain ⟨x, h1, hs, hw, hl⟩ := h.p1
  rw [List.map_cons] at hw
  obtain ⟨e1, e2, e3⟩ := pull_cons (M := M) (n := 1) h1 hw
  refine ⟨e1, e2, ?_⟩
  have e3' : pullM M 1 = { M with P := putN M.P 1 (some { x with ws := r.map itm }) } := e3
  rw [e3']
  obtain ⟨x0, h0⟩ := h.p0
  exact ⟨h.np, h.room, h.u, ⟨x0, by dsimp only; exact (if_neg (show ¬ ((0 : Nat) = 1) by decide)).trans h0⟩, ⟨{ x with ws := r.map itm }, by dsimp only; exact if_pos rfl, hs, rfl, hl⟩, by dsimp only; exact (if_neg (show ¬ ((2 : Nat) = 1) by decide)).trans h.p2, h.nn⟩
theorem PM.none_ (h : PM md rm [] lost cnt M) : pullI M 1 = itZ ∧ pullB M 1 = false ∧ pullM M 1 = M := by
  obtain ⟨x, h1, hs, hw, hl⟩ := h.p1
  exact pull_nil (M := M) (n := 1) h1 hw
end
theorem p0_facts (rm : Nat) : (R0 rm).np = 3 ∧ (R0 rm).room = rm ∧ (R0 rm).u = 2 ∧ (R0 rm).P 0 = some ptZ ∧ (R0 rm).P 1 = some ptZ ∧ (R0 rm).P 2 = none ∧ (R0 rm).N tS = 0 := by
  have e0 := r0_is rm
  refine ⟨?_, ?_, ?_, ?_, ?_, ?_, ?_⟩ <;> (rw [e0] <;> rfl)
theorem p1_pm (rm : Nat) (md : Int) (hmd : md = 1 ∨ md = 2) : subscribeE (R0 rm) 1 tS md = 0 ∧ PM md rm [] 0 0 (subscribeM (R0 rm) 1 tS md) := by
  obtain ⟨a1, a2, a3, a4, a5, a6, a7⟩ := p0_facts rm
  obtain ⟨e1, e2⟩ := sub_new (M := R0 rm) (n := 1) (by rw [a1]; decide) a5 (s := tS) ⟨by decide, by decide⟩ (md := md) (by omega) rfl (by decide)
  refine ⟨e1, ?_⟩
  have e2' : subscribeM (R0 rm) 1 tS md = _ := e2
  rw [e2']
  exact ⟨a1, a2, by show (R0 rm).u ≤ _; omega, ⟨ptZ, by dsimp only; exact (if_neg (show ¬ ((0 : Nat) = 1) by decide)).trans a4⟩, ⟨{ ptZ with sub := putF ptZ.sub tS (some (md, false)), c := ptZ.c + 1 }, by dsimp only; exact if_pos rfl, (show putF ptZ.sub tS (some (md, false)) tS = some (md, false) from putF_same _ _ _), rfl, rfl⟩, by dsimp only; exact (if_neg (show ¬ ((2 : Nat) = 1) by decide)).trans a6, a7⟩
/-! ### In memory, with what the law has seen: the last one pulled, how many. -/
structure PN (md : Int) (last : Int) (got cnt : Nat) (ns : List Nat) (lost : Nat) : Prop where
  up : ns.Pairwise (· < ·)
  gt : ∀ v ∈ ns, last < (v : Int) ∧ v < cnt
  sum : got + lost + ns.length = cnt
  lt : last < (cnt : Int)
  old : md = 2 → 0 < cnt → (ns = [] → last = (cnt : Int) - 1) ∧ (∀ h : ns ≠ [], ns.getLast h = cnt - 1)
theorem PN.pub {md last : Int} {got cnt lost : Nat} {ns ns' : List Nat} {lost' : Nat} (h : PN md last got cnt ns lost) (hmd : md = 1 ∨ md = 2) (hk : (ns' = ns ++ [cnt] ∧ lost' = lost) ∨ (md = 1 ∧ ns' = ns ∧ lost' = lost + 1 ∧ ns ≠ []) ∨ (md = 2 ∧ ns' = ns.tail ++ [cnt] ∧ lost' = lost + 1 ∧ ns ≠ [])) : PN md last got (cnt + 1) ns' lost' := by
  have hlt := h.lt
  have snoc : ∀ l : List Nat, l.Pairwise (· < ·) → (∀ v ∈ l, last < (v : Int) ∧ v < cnt) → (l ++ [cnt]).Pairwise (· < ·) ∧ (∀ v ∈ l ++ [cnt], last < (v : Int) ∧ v < cnt + 1) := fun l h1 h2 => by
    refine ⟨List.pairwise_append.2 ⟨h1, by simp, fun a ha b hb => ?_⟩, fun v hv => ?_⟩
    · rw [List.mem_singleton.1 hb]
      exact (h2 a ha).2
    · rcases List.mem_append.1 hv with hv | hv
      · exact ⟨(h2 v hv).1, Nat.lt_succ_of_lt (h2 v hv).2⟩
      · rw [List.mem_singleton.1 hv]
        exact ⟨hlt, Nat.lt_succ_self _⟩
  rcases hk with ⟨rfl, rfl⟩ | ⟨rfl, rfl, rfl, hne⟩ | ⟨rfl, rfl, rfl, hne⟩
  · obtain ⟨a1, a2⟩ := snoc ns h.up h.gt
    refine ⟨a1, a2, by have := h.sum; rw [List.length_append]; simp; omega, by omega, fun _ _ => ⟨fun e => by simp at e, fun hh => ?_⟩⟩
    simp
  · exact ⟨h.up, fun v hv => ⟨(h.gt v hv).1, Nat.lt_succ_of_lt (h.gt v hv).2⟩, by have := h.sum; omega, by omega, fun e => by cases e⟩
  · obtain ⟨v, r, rfl⟩ : ∃ v r, ns = v :: r := by
      cases ns with
      | nil => exact absurd rfl hne
      | cons v r => exact ⟨v, r, rfl⟩
    obtain ⟨a1, a2⟩ := snoc r (List.pairwise_cons.1 h.up).2 (fun z hz => h.gt z (List.mem_cons_of_mem _ hz))
    refine ⟨a1, a2, by have := h.sum; simp at this ⊢; omega, by omega, fun _ _ => ⟨fun e => by simp at e, fun hh => ?_⟩⟩
    simp
theorem PN.pull {md last : Int} {got cnt lost v : Nat} {r : List Nat} (h : PN md last got cnt (v :: r) lost) : PN md (v : Int) (got + 1) cnt r lost ∧ last < (v : Int) ∧ v < cnt := by
  obtain ⟨h1, h2⟩ := List.pairwise_cons.1 h.up
  have hv := h.gt v (List.mem_cons_self ..)
  refine ⟨⟨h2, fun z hz => ⟨by have := h1 z hz; omega, (h.gt z (List.mem_cons_of_mem _ hz)).2⟩, by have := h.sum; simp at this; omega, by omega, fun e hc => ⟨fun er => ?_, fun hr => ?_⟩⟩, hv.1, hv.2⟩
  · subst er
    have := (h.old e hc).2 (by simp)
    simp at this
    omega
  · have := (h.old e hc).2 (by simp)
    rw [List.getLast_cons hr] at this
    exact this
def PP (w : World) (b : Nat) (md : Int) (rm : Nat) (last : Int) (got cnt : Nat) (W : World) : Prop := ∃ M ns lost, RQ w b M W ∧ PM md rm ns lost cnt M ∧ PN md last got cnt ns lost
/-- Nothing waits. -/
def PE (w : World) (b : Nat) (md : Int) (rm : Nat) (last : Int) (got cnt : Nat) (W : World) : Prop := ∃ M lost, RQ w b M W ∧ PM md rm [] lost cnt M ∧ PN md last got cnt [] lost
section
variable {w W W' : World} {b rm got cnt : Nat} {md last : Int}
theorem PP.bl (h : PP w b md rm last got cnt W) : Below w.heap.size w W := by obtain ⟨M, _, _, h1, _⟩ := h; exact h1.bl
theorem PP.step (h : PP w b md rm last got cnt W) (hb : Below W.heap.size W W') : PP w b md rm last got cnt W' := by obtain ⟨M, ns, lo, h1, h2⟩ := h; exact ⟨M, ns, lo, h1.step hb, h2⟩
theorem PE.step (h : PE w b md rm last got cnt W) (hb : Below W.heap.size W W') : PE w b md rm last got cnt W' := by obtain ⟨M, lo, h1, h2⟩ := h; exact ⟨M, lo, h1.step hb, h2⟩
theorem PE.pp (h : PE w b md rm last got cnt W) : PP w b md rm last got cnt W := by obtain ⟨M, lo, h1⟩ := h; exact ⟨M, [], lo, h1⟩
theorem PP.got_le (h : PP w b md rm last got cnt W) : got ≤ cnt ∧ last < (cnt : Int) := by obtain ⟨M, ns, lo, _, _, h3⟩ := h; have := h3.sum; exact ⟨by omega, h3.lt⟩
theorem PP.zero (h : PP w b md rm last got 0 W) : PE w b md rm last got 0 W := by
  obtain ⟨M, ns, lo, h1, h2, h3⟩ := h
  have : ns = [] := List.eq_nil_of_length_eq_zero (by have := h3.sum; omega)
  subst this
  exact ⟨M, lo, h1, h2, h3⟩
theorem pp_pub (h : PP w b md rm last got cnt W) (hmd : md = 1 ∨ md = 2) (hc : cnt ≤ 1000) {A : Option Addr} (hd : BS W A 1 1 [b8 (cnt : Int)]) :
    Calls Try.prog 26 #[ptr b, .int .i64 0, .string tS, .bool false, .slice A 1 1] W fun e w' => ∃ v : Int, e = .returned (.tuple #[.int .i64 v, .int .i64 0]) ∧ Hid (PP w b md rm last got (cnt + 1) w') := by
  obtain ⟨M, ns, lo, h1, h2, h3⟩ := h
  have hrm := h1.np.2.2.1
  rw [h2.room] at hrm
  obtain ⟨x, hx, _, hw, _⟩ := h2.p1
  have hl := (h1.pt hx).1
  rw [hw, List.length_map, h2.room] at hl
  obtain ⟨e1, ns', lo', p1, p2⟩ := h2.pub hrm hmd hl
  have K := Publish_q h1 (p := 0) (by decide) (s := tS) (by decide) false hd (by have := h2.u; omega)
  rw [show ([b8 (cnt : Int)] : List UInt8).length = 1 from rfl, e1] at K
  exact K.mono fun e w' ⟨k1, k2⟩ => ⟨_, k1, keep ⟨_, ns', lo', k2.out, p1, h3.pub hmd p2⟩⟩
theorem pp_pull (h : PP w b md rm last got cnt W) : (∃ v : Nat, (last < (v : Int) ∧ v < cnt) ∧ Calls Try.prog 27 #[ptr b, .int .i64 1] W fun e w' => ∃ A c, e = .returned (.tuple #[.agg #[.string tS, .int .i64 0, .int .i64 (v : Int), .bool false, .slice A 1 c], .bool true]) ∧ Hid (BS w' A 1 c [b8 (v : Int)]) ∧ Hid (PP w b md rm (v : Int) (got + 1) cnt w')) ∨
    (Calls Try.prog 27 #[ptr b, .int .i64 1] W fun e w' => ∃ A n c, e = .returned (.tuple #[.agg #[.string ⟨#[]⟩, .int .i64 0, .int .i64 0, .bool false, .slice A n c], .bool false]) ∧ Hid (PE w b md rm last got cnt w')) := by
  obtain ⟨M, ns, lo, h1, h2, h3⟩ := h
  have K := Pull_q h1 (p := 1) (by decide)
  cases ns with
  | nil =>
    obtain ⟨e1, e2, e3⟩ := h2.none_
    rw [e1, e2, e3] at K
    exact .inr (K.mono fun e w' ⟨A, n, c, k1, k2, k3⟩ => ⟨A, n, c, k1, keep ⟨_, lo, k3.out, h2, h3⟩⟩)
  | cons v r =>
    obtain ⟨e1, e2, e3⟩ := h2.pull
    obtain ⟨p1, p2⟩ := h3.pull
    rw [e1, e2] at K
    refine .inl ⟨v, p2, K.mono fun e w' ⟨A, n, c, k1, k2, k3⟩ => ?_⟩
    have hn : n = 1 := k2.out.len
    subst hn
    exact ⟨A, c, k1, k2, keep ⟨_, r, lo, k3.out, e3, p1⟩⟩
theorem pe_end (h : PE w b md rm last got cnt W) : ∃ lost : Nat, got + lost = cnt ∧ (md = 2 → 0 < cnt → last = (cnt : Int) - 1) ∧ (Calls Try.prog 18 #[ptr b, .int .i64 1] W fun e w' => e = .returned (.int .i64 (lost : Nat)) ∧ W = w') ∧
    (Calls Try.prog 16 #[ptr b, .int .i64 1, .string tS] W fun e w' => e = .returned (.bool false) ∧ W = w') := by
  obtain ⟨M, lo, h1, h2, h3⟩ := h
  have K := Lost_q h1 (p := 1) (by decide)
  rw [h2.lost_] at K
  have K2 := Failed_q h1 (p := 1) (by decide) (s := tS) (by decide)
  rw [h2.failed] at K2
  exact ⟨lo, by have := h3.sum; simpa using this, fun a b => (h3.old a b).1 rfl, K, K2⟩
end
end Go.Proofs.Ytnbicbnighpkjaa
