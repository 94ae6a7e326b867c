/- LaneKeeps: what is handed in stays, what is told is new; a nil lane. -/
import Derived.Test.YtdjgafemmihlgaaLanF
import Derived.Test.YtdjgafemmihlgaaR1Apart
namespace Go.Proofs.Ytdjgafemmihlgaa.lan
open Go.RowKit
open Go.Proofs.Ytdjgafemmihlgaa.oct Go.Proofs.Ytdjgafemmihlgaa.ref Go.Proofs.Ytdjgafemmihlgaa.rows Go.Proofs.Ytdjgafemmihlgaa.rowg Go.Proofs.Ytdjgafemmihlgaa.trn Go.Proofs.Ytdjgafemmihlgaa.apt
open Go.Lib (byteCells)

/-- the lane beside blocks that are none of its own (X) -/
structure KS (w wx : World) (g : Nat) (s : LS) (X : Nat → Prop) : Prop where
  st : ∃ R, LA wx R g s ∧ (∀ k, R k → w.heap.size ≤ k) ∧ (∀ k, X k → ¬ R k)
  ext : ∀ k, X k → k < wx.heap.size
  wf : Wf s
  below : Below w.heap.size w wx
theorem KS.of_st {w wx : World} {g : Nat} {s : LS} (h : St w wx g s) {X : Nat → Prop} (hX : ∀ k, X k → k < w.heap.size) : KS w wx g s X := by
  obtain ⟨R, h1, h2⟩ := h.la
  exact ⟨⟨R, h1, h2, fun k hk hr => by have := hX k hk; have := h2 k hr; omega⟩, fun k hk => Nat.lt_of_lt_of_le (hX k hk) h.below.size, h.wf, h.below⟩
/-- blocks more that are none of the lane's: those that were laid since -/
theorem KS.more {w wx w2 : World} {g : Nat} {s : LS} {X Y : Nat → Prop} (h : KS w wx g s X) (hb : Below wx.heap.size wx w2) (hY : ∀ k, Y k → X k ∨ (wx.heap.size ≤ k ∧ k < w2.heap.size)) : KS w w2 g s Y := by
  obtain ⟨R, h1, h2, h3⟩ := h.st
  exact ⟨⟨R, h1.below hb, h2, fun k hk hr => (hY k hk).elim (fun e => h3 k e hr) fun e => by have := h1.lt k hr; omega⟩, fun k hk => (hY k hk).elim (fun e => Nat.lt_of_lt_of_le (h.ext k e) hb.size) fun e => e.2, h.wf, bnext h.below hb⟩
/-- a cell of such a block is written -/
theorem KS.set {w wx : World} {g : Nat} {s : LS} {X : Nat → Prop} (h : KS w wx g s X) {b : Nat} (hb : X b) (hw : w.heap.size ≤ b) (i : Nat) (v : Value) : KS w (wx.setCell ⟨b, i, none⟩ v) g s X := by
  obtain ⟨R, h1, h2, h3⟩ := h.st
  have ht : Turn (fun k => k = b) wx (wx.setCell ⟨b, i, none⟩ v) := Turn.set _ _ _ _ rfl
  exact ⟨⟨R, h1.turn ht fun k hk e => h3 b hb (e ▸ hk), h2, h3⟩, fun k hk => Nat.lt_of_lt_of_le (h.ext k hk) ht.size, h.wf, ht.below h.below (fun k e => e ▸ hw) h.below.size⟩
/-- a call of the lane: those blocks stay -/
theorem KS.run {w wx : World} {g : Nat} {s s2 : LS} {X : Nat → Prop} {P : Program} {f : FuncId} {args : Array Value} {Q : (Nat → Prop) → Ending → World → Prop} (h : KS w wx g s X) (hw : Wf s2)
    (hc : ∀ R, LA wx R g s → Calls P f args wx fun e w2 => Q R e w2 ∧ To wx w2 R g s2) : Calls P f args wx fun e w2 => (∃ R, Q R e w2 ∧ (∀ k, X k → ¬ R k) ∧ ∀ k, R k → w.heap.size ≤ k) ∧ KS w w2 g s2 X ∧ Turn (fun k => ¬ X k) wx w2 := by
  obtain ⟨R, h1, h2, h3⟩ := h.st
  refine (hc R h1).mono fun e w2 ⟨hq, R', t1, t2, t3⟩ => ⟨⟨R, hq, h3, h2⟩, ⟨⟨R', t1, fun k hk => (t3 k hk).elim (h2 k) fun e => Nat.le_trans h.below.size e, fun k hk hr => (t3 k hr).elim (h3 k hk) fun e => by have := h.ext k hk; omega⟩, fun k hk => Nat.lt_of_lt_of_le (h.ext k hk) t2.size, hw, t2.below h.below h2 h.below.size⟩, t2.mono fun k _ hk hx => h3 k hx hk⟩
/-- a row of the call's own, as Apart takes it -/
theorem own_lst {w : World} {B n : Nat} {v : Value} {xs : List Value} (h : w.ownsRow B 5 1 v n xs) : ∃ x : Lst, v = x.val ∧ x.ok ∧ x.blk = v.ownBlock ∧ ∀ g, x.blk = some g → ∃ X, Blk w g 5 X ∧ X.length = x.cap := by
  rcases h.2 with ⟨rfl, rfl⟩ | ⟨g, cap, cur, rfl, _, hg, hn, hm, hs, _⟩
  · exact ⟨⟨none, 0, 0⟩, rfl, ⟨fun _ => ⟨rfl, rfl⟩, Nat.le_refl _, Nat.zero_le _⟩, rfl, fun g e => by cases e⟩
  · exact ⟨⟨some g, n, cap⟩, rfl, ⟨(fun e => by cases e), hn, hm⟩, rfl, fun g' e => by
      injection e with e
      subst e
      exact ⟨cur.toList, hg, by simpa using hs⟩⟩
theorem keep_send {d : T} (hd : d.length ≤ 65544) : sendP (newP 2) 0 1 d = (0, { newP 2 with ps := [⟨0, 1, d⟩] }) := by
  unfold sendP
  rw [if_neg (by rintro (h | h) <;> cases h), if_neg (by omega), if_neg (by show ¬ (4096 ≤ 0); omega)]
  rfl
def kp1 (d : T) : LS := { newP 2 with ps := [⟨0, 1, d⟩] }
def kp2 (d : T) : LS := { newP 2 with ps := [⟨0, 1, d⟩, ⟨0, 1, d⟩] }
theorem keep_twice (d : T) : twiceP (kp1 d) 0 = (0, kp2 d) := by rfl
theorem keep_tell (d : T) : tellP (kp2 d) 0 = (⟨0, 1, d⟩, 0) := by rfl
theorem keep_spoil (d : T) : ∃ n q, spoilP (kp2 d) 1 0 255 = (n, { newP 2 with ps := [⟨0, 1, d⟩, q] }) := by
  unfold spoilP
  rw [atP_of (show 0 ≤ (1 : Int) ∧ (1 : Int) < (kp2 d).ps.length from ⟨by decide, by show (1 : Int) < 2; decide⟩)]
  dsimp only
  split
  · exact ⟨0, _, rfl⟩
  · exact ⟨6, ⟨0, 1, d⟩, rfl⟩
def kp3 (d : T) (q : Pk) : LS := { newP 2 with ps := [⟨0, 1, d⟩, q] }
def kp4 (q : Pk) : LS := { newP 2 with ps := [q] }
theorem keep_take (d : T) (q : Pk) : takeP (kp3 d q) 0 = (⟨0, 1, d⟩, 0, kp4 q) := by rfl
theorem keep_tell2 (q : Pk) : tellP (kp4 q) 0 = (q, 0) := by rfl
end Go.Proofs.Ytdjgafemmihlgaa.lan
