/- LanePlays: both lanes beside each other; a step, by both. -/
import Derived.Test.YtdjgafemmihlgaaLanY
import Derived.Test.YtdjgafemmihlgaaLanB
namespace Go.Proofs.Ytdjgafemmihlgaa.lan
open Go.RowKit
open Go.Proofs.Ytdjgafemmihlgaa.oct Go.Proofs.Ytdjgafemmihlgaa.ref Go.Proofs.Ytdjgafemmihlgaa.rows Go.Proofs.Ytdjgafemmihlgaa.rowg Go.Proofs.Ytdjgafemmihlgaa.trn
open Go.Lib (byteCells)

/-- both lanes, beside blocks that are none of theirs (X) -/
structure PR (w wx : World) (gl gr : Nat) (s t : LS) (X R1 R2 : Nat → Prop) : Prop where
  la : LA wx R1 gl s
  ra : RA wx R2 gr t
  two : ∀ k, R1 k → ¬ R2 k
  lo : ∀ k, R1 k → w.heap.size ≤ k
  ro : ∀ k, R2 k → w.heap.size ≤ k
  x1 : ∀ k, X k → ¬ R1 k
  x2 : ∀ k, X k → ¬ R2 k
  ext : ∀ k, X k → k < wx.heap.size
  ws : Wf s
  wt : Wf t
  below : Below w.heap.size w wx
def PS (w wx : World) (gl gr : Nat) (s t : LS) (X : Nat → Prop) : Prop := ∃ R1 R2, PR w wx gl gr s t X R1 R2
theorem PR.more {w wx w2 : World} {gl gr : Nat} {s t : LS} {X Y R1 R2 : Nat → Prop} (h : PR w wx gl gr s t X R1 R2) (hb : Below wx.heap.size wx w2) (hY : ∀ k, Y k → X k ∨ (wx.heap.size ≤ k ∧ k < w2.heap.size)) : PR w w2 gl gr s t Y R1 R2 :=
  ⟨h.la.below hb, h.ra.below hb, h.two, h.lo, h.ro, fun k hk hr => (hY k hk).elim (fun e => h.x1 k e hr) fun e => by have := h.la.lt k hr; omega,
    fun k hk hr => (hY k hk).elim (fun e => h.x2 k e hr) fun e => by have := h.ra.lt k hr; omega, fun k hk => (hY k hk).elim (fun e => Nat.lt_of_lt_of_le (h.ext k e) hb.size) fun e => e.2, h.ws, h.wt, bnext h.below hb⟩
theorem PS.more {w wx w2 : World} {gl gr : Nat} {s t : LS} {X Y : Nat → Prop} (h : PS w wx gl gr s t X) (hb : Below wx.heap.size wx w2) (hY : ∀ k, Y k → X k ∨ (wx.heap.size ≤ k ∧ k < w2.heap.size)) : PS w w2 gl gr s t Y := by
  obtain ⟨R1, R2, h⟩ := h
  exact ⟨R1, R2, h.more hb hY⟩
theorem PS.same {w wx w2 : World} {gl gr : Nat} {s t : LS} {X : Nat → Prop} (h : PS w wx gl gr s t X) (hb : Below wx.heap.size wx w2) : PS w w2 gl gr s t X := h.more hb fun _ e => Or.inl e
theorem PS.less {w wx : World} {gl gr : Nat} {s t : LS} {X Y : Nat → Prop} (h : PS w wx gl gr s t X) (hY : ∀ k, Y k → X k) : PS w wx gl gr s t Y := h.more (Below.refl _ _) fun k e => Or.inl (hY k e)
theorem PS.below {w wx : World} {gl gr : Nat} {s t : LS} {X : Nat → Prop} (h : PS w wx gl gr s t X) : Below w.heap.size w wx := by
  obtain ⟨_, _, h⟩ := h
  exact h.below
theorem PS.ws {w wx : World} {gl gr : Nat} {s t : LS} {X : Nat → Prop} (h : PS w wx gl gr s t X) : Wf s := by
  obtain ⟨_, _, h⟩ := h
  exact h.ws
theorem PS.wt {w wx : World} {gl gr : Nat} {s t : LS} {X : Nat → Prop} (h : PS w wx gl gr s t X) : Wf t := by
  obtain ⟨_, _, h⟩ := h
  exact h.wt
theorem PR.left {w wx w2 : World} {gl gr : Nat} {s t s2 : LS} {X R1 R2 : Nat → Prop} (h : PR w wx gl gr s t X R1 R2) (hw : Wf s2) (ht : To wx w2 R1 gl s2) : PS w w2 gl gr s2 t X ∧ Turn (fun k => ¬ X k) wx w2 := by
  obtain ⟨R', t1, t2, t3⟩ := ht
  exact ⟨⟨R', R2, t1, h.ra.turn t2 fun k hk hr => h.two k hr hk, fun k hk hr => (t3 k hk).elim (fun e => h.two k e hr) fun e => (by have := h.ra.lt k hr; omega), fun k hk => (t3 k hk).elim (h.lo k) fun e => Nat.le_trans h.below.size e, h.ro,
    fun k hk hr => (t3 k hr).elim (h.x1 k hk) fun e => (by have := h.ext k hk; omega), h.x2, fun k hk => Nat.lt_of_lt_of_le (h.ext k hk) t2.size, hw, h.wt, t2.below h.below h.lo h.below.size⟩, t2.mono fun k _ hk hx => h.x1 k hx hk⟩
theorem PR.right {w wx w2 : World} {gl gr : Nat} {s t t2 : LS} {X R1 R2 : Nat → Prop} (h : PR w wx gl gr s t X R1 R2) (hw : Wf t2) (ht : RTo wx w2 R2 gr t2) : PS w w2 gl gr s t2 X ∧ Turn (fun k => ¬ X k) wx w2 := by
  obtain ⟨R', t1, t2, t3⟩ := ht
  exact ⟨⟨R1, R', h.la.turn t2 fun k hk hr => h.two k hk hr, t1, fun k hk hr => (t3 k hr).elim (fun e => h.two k hk e) fun e => (by have := h.la.lt k hk; omega), h.lo, fun k hk => (t3 k hk).elim (h.ro k) fun e => Nat.le_trans h.below.size e, h.x1,
    fun k hk hr => (t3 k hr).elim (h.x2 k hk) fun e => (by have := h.ext k hk; omega), fun k hk => Nat.lt_of_lt_of_le (h.ext k hk) t2.size, h.ws, hw, t2.below h.below h.ro h.below.size⟩, t2.mono fun k _ hk hx => h.x2 k hx hk⟩
/-- a call of the program's lane -/
theorem PS.runL {w wx : World} {gl gr : Nat} {s t s2 : LS} {X : Nat → Prop} {P : Program} {f : FuncId} {args : Array Value} {Q : Ending → Prop} (h : PS w wx gl gr s t X) (hw : Wf s2)
    (hc : ∀ R, LA wx R gl s → Calls P f args wx fun e w2 => Q e ∧ To wx w2 R gl s2) : Calls P f args wx fun e w2 => Q e ∧ PS w w2 gl gr s2 t X ∧ Turn (fun k => ¬ X k) wx w2 := by
  obtain ⟨R1, R2, h⟩ := h
  exact (hc R1 h.la).mono fun e w2 ⟨hq, ht⟩ => ⟨hq, h.left hw ht⟩
/-- a call of the document's -/
theorem PS.runR {w wx : World} {gl gr : Nat} {s t t2 : LS} {X : Nat → Prop} {P : Program} {f : FuncId} {args : Array Value} {Q : Ending → Prop} (h : PS w wx gl gr s t X) (hw : Wf t2)
    (hc : ∀ R, RA wx R gr t → Calls P f args wx fun e w2 => Q e ∧ RTo wx w2 R gr t2) : Calls P f args wx fun e w2 => Q e ∧ PS w w2 gl gr s t2 X ∧ Turn (fun k => ¬ X k) wx w2 := by
  obtain ⟨R1, R2, h⟩ := h
  exact (hc R2 h.ra).mono fun e w2 ⟨hq, ht⟩ => ⟨hq, h.right hw ht⟩
/-- a packet that was taken: its bytes, which the document's lane doesn't turn, in no block of X -/
structure PT (w wx : World) (gl gr : Nat) (s t : LS) (X : Nat → Prop) (p : Option Addr) (d : T) : Prop where
  pr : ∃ R1 R2, PR w wx gl gr s t X R1 R2 ∧ ∀ b o z, p = some ⟨b, o, z⟩ → b < wx.heap.size → ¬ R2 b
  row : In8 wx p d
  out : ∀ b o z, p = some ⟨b, o, z⟩ → b < wx.heap.size → ¬ X b
theorem PT.same {w wx w2 : World} {gl gr : Nat} {s t : LS} {X : Nat → Prop} {p : Option Addr} {d : T} (h : PT w wx gl gr s t X p d) (hb : Below wx.heap.size wx w2) : PT w w2 gl gr s t X p d := by
  obtain ⟨R1, R2, h1, h3⟩ := h.pr
  exact ⟨⟨R1, R2, h1.more hb fun _ e => Or.inl e, fun b o z e _ hr => h3 b o z e (h1.ra.lt b hr) hr⟩, h.row.below hb, fun b o z e _ hx => h.out b o z e (h1.ext b hx) hx⟩
/-- a cell of a block of X is written -/
theorem PR.set {w wx w2 : World} {gl gr : Nat} {s t : LS} {X R1 R2 : Nat → Prop} (h : PR w wx gl gr s t X R1 R2) {b : Nat} (hb : X b) (hw : w.heap.size ≤ b) (ht : Turn (fun k => k = b) wx w2) : PR w w2 gl gr s t X R1 R2 :=
  ⟨h.la.turn ht fun _ hk e => h.x1 b hb (e ▸ hk), h.ra.turn ht fun _ hk e => h.x2 b hb (e ▸ hk), h.two, h.lo, h.ro, h.x1, h.x2, fun k hk => Nat.lt_of_lt_of_le (h.ext k hk) ht.size, h.ws, h.wt, ht.below h.below (fun _ e => e ▸ hw) h.below.size⟩
theorem PS.set {w wx w2 : World} {gl gr : Nat} {s t : LS} {X : Nat → Prop} (h : PS w wx gl gr s t X) {b : Nat} (hb : X b) (hw : w.heap.size ≤ b) (ht : Turn (fun k => k = b) wx w2) : PS w w2 gl gr s t X := by
  obtain ⟨R1, R2, h⟩ := h
  exact ⟨R1, R2, h.set hb hw ht⟩
theorem PT.set {w wx w2 : World} {gl gr : Nat} {s t : LS} {X : Nat → Prop} {p : Option Addr} {d : T} (h : PT w wx gl gr s t X p d) {b : Nat} (hb : X b) (hw : w.heap.size ≤ b) (ht : Turn (fun k => k = b) wx w2) : PT w w2 gl gr s t X p d := by
  obtain ⟨R1, R2, h1, h3⟩ := h.pr
  exact ⟨⟨R1, R2, h1.set hb hw ht, fun b o z e _ hr => h3 b o z e (h1.ra.lt b hr) hr⟩, in8_turn h.row ht fun b' o z e hl e2 => h.out b' o z e hl (e2 ▸ hb), fun b o z e _ hx => h.out b o z e (h1.ext b hx) hx⟩
theorem own_in8 {w : World} {B c : Nat} {p : Option Addr} {d : T} (h : w.ownsRow B 5 1 (.slice p d.length c) d.length (byteCells d)) : In8 w p d :=
  (QOK.in8 (w := w) (R := fun _ => True) (x := ⟨0, 0, p, c, d⟩) ⟨own_base h (Nat.zero_le _), fun _ _ => trivial⟩)
def TookL (q : Pk × Nat) (p : Option Addr) (c : Nat) : Ending := .returned (.tuple #[.agg #[.int .i64 (q.1.a : Nat), .int .i64 (q.1.b : Nat), .slice p q.1.d.length c], err q.2])
theorem PS.takeL {w wx : World} {gl gr : Nat} {s t : LS} {X : Nat → Prop} (h : PS w wx gl gr s t X) (k : Int) (hk : I64 k) :
    Calls Try.prog 14 #[ptr gl, .int .i64 k] wx fun e w2 => ∃ p c, e = TookL ((takeP s k).1, (takeP s k).2.1) p c ∧ PT w w2 gl gr (takeP s k).2.2 t X p (takeP s k).1.d ∧ Turn (fun k => ¬ X k) wx w2 := by
  obtain ⟨R1, R2, h⟩ := h
  refine (take_c h.la h.ws k hk).mono fun e w2 ⟨v, e1, ⟨o1, o2⟩, ht⟩ => ?_
  obtain ⟨p, c, rfl⟩ := own_slice o1
  obtain ⟨R', t1, t2, t3⟩ := ht
  refine ⟨p, c, e1, ⟨⟨R', R2, ⟨t1, h.ra.turn t2 fun k hk hr => h.two k hr hk, fun k hk hr => (t3 k hk).elim (fun e => h.two k e hr) fun e => (by have := h.ra.lt k hr; omega), fun k hk => (t3 k hk).elim (h.lo k) fun e => Nat.le_trans h.below.size e, h.ro,
    fun k hk hr => (t3 k hr).elim (h.x1 k hk) fun e => (by have := h.ext k hk; omega), h.x2, fun k hk => Nat.lt_of_lt_of_le (h.ext k hk) t2.size, h.ws.take k, h.wt, t2.below h.below h.lo h.below.size⟩, ?_⟩, own_in8 o1, ?_⟩, t2.mono fun k _ hk hx => h.x1 k hx hk⟩
  · intro b o z e _ hr
    subst e
    exact (o2 b rfl).elim (fun e => h.two b e hr) fun e => by have := h.ra.lt b hr; omega
  · intro b o z e _ hx
    subst e
    exact (o2 b rfl).elim (fun e => h.x1 b hx e) fun e => by have := h.ext b hx; omega
theorem PT.takeR {w wx : World} {gl gr : Nat} {s t : LS} {X : Nat → Prop} {p : Option Addr} {d : T} (h : PT w wx gl gr s t X p d) (k : Int) (hk : I64 k) :
    Calls Try.prog 30 #[ptr gr, .int .i64 k] wx fun e w2 => ∃ q c, e = TookL ((takeP t k).1, (takeP t k).2.1) q c ∧ In8 w2 q (takeP t k).1.d ∧ (∀ b o z, q = some ⟨b, o, z⟩ → ¬ X b) ∧ In8 w2 p d ∧ (∀ b o z, p = some ⟨b, o, z⟩ → b < wx.heap.size → ¬ X b) ∧ PS w w2 gl gr s (takeP t k).2.2 X ∧ Turn (fun k => ¬ X k) wx w2 := by
  obtain ⟨R1, R2, h1, h3⟩ := h.pr
  refine (rtake_c h1.ra h1.wt k hk).mono fun e w2 ⟨q, c, e1, o1, o2, ht⟩ => ?_
  have hr := h1.right (h1.wt.take k) ht
  obtain ⟨R', t1, t2, t3⟩ := ht
  exact ⟨q, c, e1, o1, fun b o z e hx => h1.x2 b hx (o2 b o z e), in8_turn h.row t2 h3, h.out, hr.1, hr.2⟩
/-- how often a link was shut, behind a call -/
theorem cn_send (s : LS) (a b : Int) (d : T) : (sendP s a b d).2.cn = s.cn := by
  unfold sendP
  repeat' split
  all_goals rfl
theorem cn_drop (s : LS) (k : Int) : (dropP s k).2.cn = s.cn := by
  unfold dropP
  split <;> rfl
theorem cn_take (s : LS) (k : Int) : (takeP s k).2.2.cn = s.cn := by
  unfold takeP
  repeat' split
  all_goals rfl
theorem cn_add (s : LS) (x : Pk) : (addP s x).2.cn = s.cn := by
  unfold addP
  split <;> rfl
theorem cn_twice (s : LS) (k : Int) : (twiceP s k).2.cn = s.cn := by
  unfold twiceP
  split
  · rfl
  · exact cn_add _ _
theorem cn_spoil (s : LS) (k j : Int) (c : UInt8) : (spoilP s k j c).2.cn = s.cn := by
  unfold spoilP
  repeat' split
  all_goals rfl
theorem cn_link (s : LS) (a b : Int) (v : Bool) : (linkP s a b v).2.cn ≤ s.cn + 1 := by
  unfold linkP
  repeat' split
  all_goals (dsimp only; omega)
theorem small_take {s : LS} (h : Wf s) (k : Int) : (takeP s k).1.d.length ≤ 65544 := by
  unfold takeP
  split
  · exact Nat.zero_le _
  · have h2 := atP_some (by assumption)
    split
    · exact (h.getD h2.2.2).2.2
    · exact Nat.zero_le _
end Go.Proofs.Ytdjgafemmihlgaa.lan
