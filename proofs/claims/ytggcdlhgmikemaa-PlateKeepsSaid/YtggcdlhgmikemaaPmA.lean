/- PlateArmed: in plain lists; two plates of the program's beside each other. -/
import Derived.Test.YtggcdlhgmikemaaPlL
namespace Go.Proofs.Ytggcdlhgmikemaa.plt
open Go.RowKit
open Go.Proofs.Ytggcdlhgmikemaa.oct Go.Proofs.Ytggcdlhgmikemaa.ref Go.Proofs.Ytggcdlhgmikemaa.rows Go.Proofs.Ytggcdlhgmikemaa.rowg Go.Proofs.Ytggcdlhgmikemaa.trn
open Go.Lib (byteCells)
open Go.Proofs.Ytggcdlhgmikemaa.opn (SP spenc spenc_len GoodS)

/-- how an armed plate (sp; n changes are left) stands to one that isn't -/
structure ArmI (n : Nat) (sp sq : PS) : Prop where
  fs : sp.fs = sq.fs
  room : sp.room = sq.room
  ql : sq.left = none
  qd : sq.down = false
  pl : sp.left = some n
  pd : 0 < n → sp.down = false
def okStep (x : SP) : Prop := (x.k = 0 ∨ x.k = 1 ∨ x.k = 2) ∧ nameOk x.n = true
theorem ask_free {s : PS} {n : T} (h1 : s.left = none) (h2 : s.down = false) (hn : nameOk n = true) : askP s n true = (0, s) := by
  unfold askP
  rw [if_neg (by rw [hn]; simp), h2, h1]
  rfl
theorem ask_armed {s : PS} {n : T} {k : Nat} (h1 : s.left = some (k + 1)) (h2 : s.down = false) (hn : nameOk n = true) : askP s n true = (0, { s with left := some k }) := by
  unfold askP
  rw [if_neg (by rw [hn]; simp), h2, h1]
  rfl
theorem ask_out {s : PS} {n : T} (h1 : s.left = some 0) (hn : nameOk n = true) : askP s n true = (9, { s with down := true }) := by
  unfold askP
  rw [if_neg (by rw [hn]; simp), h1]
  cases hd : s.down with
  | true =>
    rw [if_pos rfl]
    rw [← h1, ← hd]
  | false => rfl
theorem app_of {s s1 : PS} {n : T} (h : askP s n true = (0, s1)) (b : T) : appP s n b = if s1.room < usedP s.fs + b.length then (8, s1) else (0, { s1 with fs := layP s.fs ⟨n, (getF s.fs n).b ++ b, (getF s.fs n).safe⟩ }) := by
  unfold appP
  rw [h, if_neg (by simp)]
theorem syn_of {s s1 : PS} {n : T} (h : askP s n true = (0, s1)) : synP s n = (0, { s1 with fs := layP s.fs ⟨n, (getF s.fs n).b, (getF s.fs n).b.length⟩ }) := by
  unfold synP
  rw [h, if_neg (by simp)]
theorem cut_of {s s1 : PS} {n : T} (h : askP s n true = (0, s1)) (k : Int) : cutP s n k = if k < 0 ∨ ((getF s.fs n).b.length : Int) < k then (6, s1) else (0, { s1 with fs := layP s.fs ⟨n, (getF s.fs n).b.take k.toNat, min (getF s.fs n).safe k.toNat⟩ }) := by
  unfold cutP
  rw [h, if_neg (by simp)]
theorem app_no {s s1 : PS} {n : T} (h : askP s n true = (9, s1)) (b : T) : appP s n b = (9, s1) := by
  unfold appP
  rw [h, if_pos (by simp)]
theorem syn_no {s s1 : PS} {n : T} (h : askP s n true = (9, s1)) : synP s n = (9, s1) := by
  unfold synP
  rw [h, if_pos (by simp)]
theorem cut_no {s s1 : PS} {n : T} (h : askP s n true = (9, s1)) (k : Int) : cutP s n k = (9, s1) := by
  unfold cutP
  rw [h, if_pos (by simp)]
theorem do_k0 (s : PS) {x : SP} (k0 : x.k = 0) : doP s x = appP s x.n x.d := by unfold doP; rw [if_pos k0]
theorem do_k1 (s : PS) {x : SP} (k0 : x.k = 1) : doP s x = synP s x.n := by unfold doP; rw [if_neg (by omega), if_pos k0]
theorem do_k2 (s : PS) {x : SP} (k0 : x.k = 2) : doP s x = cutP s x.n x.m := by unfold doP; rw [if_neg (by omega), if_neg (by omega), if_pos k0]
theorem arm_step {n : Nat} {sp sq : PS} (h : ArmI (n + 1) sp sq) {x : SP} (hx : okStep x) : ArmI n (doP sp x).2 (doP sq x).2 ∧ (doP sp x).2.down = false := by
  obtain ⟨h1, h2, h3, h4, h5, h6⟩ := h
  have hd := h6 (by omega)
  obtain ⟨hk, hn⟩ := hx
  have ep := ask_armed h5 hd hn
  have eq := ask_free h3 h4 hn
  rcases hk with k0 | k0 | k0
  · rw [do_k0 _ k0, do_k0 _ k0, app_of ep, app_of eq, h1]
    dsimp only
    rw [h2]
    by_cases hc : sq.room < usedP sq.fs + x.d.length
    · rw [if_pos hc, if_pos hc]
      exact ⟨⟨rfl, rfl, h3, h4, rfl, fun _ => hd⟩, hd⟩
    · rw [if_neg hc, if_neg hc]
      exact ⟨⟨rfl, rfl, h3, h4, rfl, fun _ => hd⟩, hd⟩
  · rw [do_k1 _ k0, do_k1 _ k0, syn_of ep, syn_of eq, h1]
    exact ⟨⟨rfl, h2, h3, h4, rfl, fun _ => hd⟩, hd⟩
  · rw [do_k2 _ k0, do_k2 _ k0, cut_of ep, cut_of eq, h1]
    by_cases hc : x.m < 0 ∨ ((getF sq.fs x.n).b.length : Int) < x.m
    · rw [if_pos hc, if_pos hc]
      exact ⟨⟨rfl, h2, h3, h4, rfl, fun _ => hd⟩, hd⟩
    · rw [if_neg hc, if_neg hc]
      exact ⟨⟨rfl, h2, h3, h4, rfl, fun _ => hd⟩, hd⟩
theorem arm_out {sp sq : PS} (h : ArmI 0 sp sq) {x : SP} (hx : okStep x) : ArmI 0 (doP sp x).2 sq ∧ (doP sp x).2.down = true := by
  obtain ⟨h1, h2, h3, h4, h5, h6⟩ := h
  obtain ⟨hk, hn⟩ := hx
  have ep := ask_out h5 hn
  rcases hk with k0 | k0 | k0
  · rw [do_k0 _ k0, app_no ep]
    exact ⟨⟨h1, h2, h3, h4, h5, fun e => absurd e (by omega)⟩, rfl⟩
  · rw [do_k1 _ k0, syn_no ep]
    exact ⟨⟨h1, h2, h3, h4, h5, fun e => absurd e (by omega)⟩, rfl⟩
  · rw [do_k2 _ k0, cut_no ep]
    exact ⟨⟨h1, h2, h3, h4, h5, fun e => absurd e (by omega)⟩, rfl⟩
/-- two plates of the program's beside each other, and beside blocks of neither (Z) -/
structure TR (w wy : World) (gp gq : Nat) (sp sq : PS) (Z Rp Rq : Nat → Prop) : Prop where
  pa : PA wy Rp gp sp
  qa : PA wy Rq gq sq
  two : ∀ k, Rp k → ¬ Rq k
  plo : ∀ k, Rp k → w.heap.size ≤ k
  qlo : ∀ k, Rq k → w.heap.size ≤ k
  pz : ∀ k, Z k → ¬ Rp k
  qz : ∀ k, Z k → ¬ Rq k
  zlt : ∀ k, Z k → k < wy.heap.size
  wp : Wf sp
  wq : Wf sq
  below : Below w.heap.size w wy
def TW (w wy : World) (gp gq : Nat) (sp sq : PS) (Z : Nat → Prop) : Prop := ∃ Rp Rq, TR w wy gp gq sp sq Z Rp Rq
theorem TR.swap {w wy : World} {gp gq : Nat} {sp sq : PS} {Z Rp Rq : Nat → Prop} (h : TR w wy gp gq sp sq Z Rp Rq) : TR w wy gq gp sq sp Z Rq Rp :=
  ⟨h.qa, h.pa, fun k h1 h2 => h.two k h2 h1, h.qlo, h.plo, h.qz, h.pz, h.zlt, h.wq, h.wp, h.below⟩
theorem TW.swap {w wy : World} {gp gq : Nat} {sp sq : PS} {Z : Nat → Prop} (h : TW w wy gp gq sp sq Z) : TW w wy gq gp sq sp Z := by
  obtain ⟨Rp, Rq, h⟩ := h
  exact ⟨Rq, Rp, h.swap⟩
theorem TW.more {w wy w2 : World} {gp gq : Nat} {sp sq : PS} {Z Z2 : Nat → Prop} (h : TW w wy gp gq sp sq Z) (hb : Below wy.heap.size wy w2) (hZ : ∀ k, Z2 k → Z k ∨ (wy.heap.size ≤ k ∧ k < w2.heap.size)) : TW w w2 gp gq sp sq Z2 := by
  obtain ⟨Rp, Rq, h⟩ := h
  exact ⟨Rp, Rq, ⟨h.pa.below hb, h.qa.below hb, h.two, h.plo, h.qlo, fun k hk hr => (hZ k hk).elim (fun e => h.pz k e hr) fun e => by have := h.pa.lt k hr; omega,
    fun k hk hr => (hZ k hk).elim (fun e => h.qz k e hr) fun e => by have := h.qa.lt k hr; omega, fun k hk => (hZ k hk).elim (fun e => Nat.lt_of_lt_of_le (h.zlt k e) hb.size) fun e => e.2, h.wp, h.wq, bnext h.below hb⟩⟩
theorem TW.same {w wy w2 : World} {gp gq : Nat} {sp sq : PS} {Z : Nat → Prop} (h : TW w wy gp gq sp sq Z) (hb : Below wy.heap.size wy w2) : TW w w2 gp gq sp sq Z := h.more hb fun _ e => Or.inl e
theorem TW.below {w wy : World} {gp gq : Nat} {sp sq : PS} {Z : Nat → Prop} (h : TW w wy gp gq sp sq Z) : Below w.heap.size w wy := by
  obtain ⟨_, _, h⟩ := h
  exact h.below
/-- a call of the first plate's that says what it makes of it -/
theorem TW.run {w wy : World} {gp gq : Nat} {sp sq s2 : PS} {Z : Nat → Prop} (h : TW w wy gp gq sp sq Z) (hw : Wf s2) {P : Program} {f : FuncId} {args : Array Value} {Q : Ending → Prop} (hc : ∀ R, (∀ k, R k → w.heap.size ≤ k) → PA wy R gp sp → Wf sp → Calls P f args wy fun e w2 => Q e ∧ To wy w2 R gp s2) :
    Calls P f args wy fun e w2 => Q e ∧ TW w w2 gp gq s2 sq Z := by
  obtain ⟨Rp, Rq, h⟩ := h
  refine (hc Rp h.plo h.pa h.wp).mono fun e w2 ⟨hq, R', t1, t2, t3⟩ => ⟨hq, R', Rq, ⟨t1, h.qa.turn t2 fun k hk hr => h.two k hr hk, fun k hk hr => (t3 k hk).elim (fun e => h.two k e hr) fun e => (by have := h.qa.lt k hr; omega),
    fun k hk => (t3 k hk).elim (h.plo k) fun e => Nat.le_trans h.below.size e, h.qlo, fun k hk hr => (t3 k hr).elim (h.pz k hk) fun e => (by have := h.zlt k hk; omega), h.qz, fun k hk => Nat.lt_of_lt_of_le (h.zlt k hk) t2.size, hw, h.wq, t2.below h.below h.plo h.below.size⟩⟩
/-- a call that only reads the first plate -/
theorem TW.ask {w wy : World} {gp gq : Nat} {sp sq : PS} {Z : Nat → Prop} (h : TW w wy gp gq sp sq Z) {P : Program} {f : FuncId} {args : Array Value} {Q : Ending → World → Prop} (hc : ∀ R, PA wy R gp sp → Wf sp → Calls P f args wy fun e w2 => Q e w2 ∧ Below wy.heap.size wy w2) :
    Calls P f args wy fun e w2 => Q e w2 ∧ Below wy.heap.size wy w2 ∧ TW w w2 gp gq sp sq Z := by
  have h0 := h
  obtain ⟨Rp, Rq, h⟩ := h
  exact (hc Rp h.pa h.wp).mono fun e w2 ⟨hq, hb⟩ => ⟨hq, hb, h0.same hb⟩
/-- a step of the first plate's, beside a plate of the document's (block gx, one of Z) -/
theorem TW.do {w wy : World} {gp gq gx : Nat} {sp sq t : PS} {Z : Nat → Prop} (h : TW w wy gp gq sp sq Z) (hr : RB wy (fun k => k = gx) gx t) (hx : Z gx) (hxw : w.heap.size ≤ gx) (hwt : Wf t) (x : SP) (hg : GoodS w x) :
    Calls Try.prog 11 #[dptr gp, dptr gx, .agg (spenc x).toArray] wy fun e w2 => (∃ b : Bool, e = .returned (.bool b)) ∧ TW w w2 gp gq (doP sp x).2 sq (fun k => Z k ∧ k ≠ gx) ∧ Turn (fun k => ¬ (Z k ∧ k ≠ gx)) wy w2 := by
  obtain ⟨Rp, Rq, h⟩ := h
  have hq : QS w wy gp gx sp t (fun k => Rq k ∨ (Z k ∧ k ≠ gx)) :=
    ⟨Rp, fun k => k = gx, ⟨h.pa, hr, fun k hk e => h.pz gx hx (e ▸ hk), h.plo, fun k e => e ▸ hxw, fun k hk hr => hk.elim (fun e => h.two k hr e) fun e => h.pz k e.1 hr, fun k hk e => hk.elim (fun e2 => h.qz gx hx (e ▸ e2)) fun e2 => e2.2 e, fun k hk => hk.elim (h.qa.lt k) fun e => h.zlt k e.1, h.wp, hwt, h.below⟩⟩
  refine (do_c hq False (fun e => e.elim) x hg).mono ?_
  rintro e w2 ⟨⟨b, e1, _⟩, ⟨R1, R2, r⟩, ht⟩
  have htq : PA w2 Rq gq sq := h.qa.turn ht fun k hk hn => hn (Or.inl hk)
  exact ⟨⟨b, e1⟩, ⟨R1, Rq, ⟨r.la, htq, fun k hk hr => r.x1 k (Or.inl hr) hk, r.lo, h.qlo, fun k hk hr => r.x1 k (Or.inr hk) hr, fun k hk => h.qz k hk.1, fun k hk => Nat.lt_of_lt_of_le (h.zlt k hk.1) ht.size, r.ws, h.wq, r.below⟩⟩, ht.mono fun k _ hn hk => hn (Or.inr hk)⟩
end Go.Proofs.Ytggcdlhgmikemaa.plt
