/- LaneOrders, in plain lists and in memory: what is wanted and what stays, beside the lane. -/
import Derived.Test.YtdjgafemmihlgaaLanC
namespace Go.Proofs.Ytdjgafemmihlgaa.lan
open Go.RowKit
open Go.Proofs.Ytdjgafemmihlgaa.oct Go.Proofs.Ytdjgafemmihlgaa.ref Go.Proofs.Ytdjgafemmihlgaa.rows Go.Proofs.Ytdjgafemmihlgaa.rowg Go.Proofs.Ytdjgafemmihlgaa.trn
open Go.Lib (byteCells)

theorem first_split (f : Pk → Bool) : ∀ (l : List Pk) (i : Nat) (x : Pk) (r : List Pk), l.filter f = x :: r →
    ∃ j, j < l.length ∧ firstP f l i = ((i + j : Nat) : Int) ∧ l.getD j zeroPk = x ∧ (l.eraseIdx j).filter f = r ∧ (l.eraseIdx j).filter (fun y => !f y) = l.filter (fun y => !f y)
  | [], _, _, _, h => by cases h
  | y :: l, i, x, r, h => by
    cases hy : f y with
    | true =>
      rw [List.filter_cons, if_pos hy] at h
      injection h with h1 h2
      refine ⟨0, by simp, ?_, h1, h2, ?_⟩
      · show (if f y then (i : Int) else _) = _
        rw [if_pos hy]; simp
      · rw [List.eraseIdx_cons_zero, List.filter_cons, if_neg (by rw [hy]; simp)]
    | false =>
      rw [List.filter_cons, if_neg (by rw [hy]; simp)] at h
      obtain ⟨j, h1, h2, h3, h4, h5⟩ := first_split f l (i + 1) x r h
      refine ⟨j + 1, by rw [List.length_cons]; omega, ?_, h3, ?_, ?_⟩
      · show (if f y then (i : Int) else firstP f l (i + 1)) = _
        rw [if_neg (by rw [hy]; simp), h2]
        omega
      · rw [List.eraseIdx_cons_succ, List.filter_cons, if_neg (by rw [hy]; simp)]; exact h4
      · rw [List.eraseIdx_cons_succ, List.filter_cons, if_pos (by rw [hy]; rfl), List.filter_cons, if_pos (by rw [hy]; rfl), h5]
/-- the next packet, taken -/
theorem take_next {s : LS} {x : Pk} {r : List Pk} (h : s.ps.filter (freeP s) = x :: r) : ∃ j : Nat, nextP s = (j : Int) ∧ j < s.ps.length ∧ takeP s (j : Int) = (x, 0, gone s j) ∧ (gone s j).ps.filter (freeP s) = r ∧ (gone s j).ps.filter (fun y => !freeP s y) = s.ps.filter (fun y => !freeP s y) := by
  obtain ⟨j, h1, h2, h3, h4, h5⟩ := first_split (freeP s) s.ps 0 x r h
  have hx : freeP s x = true := (List.mem_filter.1 (h ▸ List.mem_cons_self)).2
  refine ⟨j, by unfold nextP; rw [h2, Nat.zero_add], h1, ?_, h4, h5⟩
  unfold takeP
  rw [atP_of ⟨by omega, by omega⟩, Int.toNat_natCast]
  dsimp only
  rw [h3, hx, if_pos rfl]
theorem next_no {s : LS} (h : s.ps.filter (freeP s) = []) : nextP s = -1 ∧ s.ps.filter (fun y => !freeP s y) = s.ps := by
  have h1 : ∀ x ∈ s.ps, freeP s x = false := fun x hx => by
    cases hf : freeP s x with
    | false => rfl
    | true => have : x ∈ s.ps.filter (freeP s) := List.mem_filter.2 ⟨hx, hf⟩; rw [h] at this; cases this
  exact ⟨next_none h1, List.filter_eq_self.2 fun x hx => by rw [h1 x hx]; rfl⟩
theorem take_head {s : LS} {x : Pk} {r : List Pk} (h : s.ps = x :: r) (hf : freeP s x = true) : takeP s 0 = (x, 0, gone s 0) ∧ (gone s 0).ps = r := by
  unfold takeP
  rw [atP_of ⟨by omega, by rw [h, List.length_cons]; omega⟩]
  dsimp only
  have hg : s.ps.getD (Int.toNat 0) zeroPk = x := by rw [h]; rfl
  rw [hg, hf, if_pos rfl]
  exact ⟨rfl, by show s.ps.eraseIdx 0 = r; rw [h]; rfl⟩
/-- a packet that is handed in -/
structure AP where
  a : Int
  b : Int
  p : Option Addr
  c : Nat
  d : T
instance : Inhabited AP := ⟨⟨0, 0, none, 0, []⟩⟩
def aenc (x : AP) : List Value := [.int .i64 x.a, .int .i64 x.b, .slice x.p x.d.length x.c]
theorem aenc_len : ∀ a, (aenc a).length = 3 := fun _ => rfl
structure GoodA (w : World) (x : AP) : Prop where
  row : In8 w x.p x.d
  nil : x.p = none → x.c = 0
  fit : x.d.length ≤ 140737488351232
  ia : I64 x.a
  ib : I64 x.b
def ienc (n : Int) : List Value := [.int .i64 n]
theorem ienc_len : ∀ a, (ienc a).length = 1 := fun _ => rfl
/-- packets that lie in a row of the law's own, their bytes being those that were handed in -/
def Ins (w : World) (W : List Qk) : Prop := ∀ x ∈ W, In8 w x.p x.d ∧ (x.p = none → x.c = 0) ∧ x.d.length ≤ 65544
/-- the lane, and two rows of packets beside it -/
structure OM (w wx : World) (g : Nat) (s : LS) (vw vs : Value) (W S : List Qk) : Prop where
  st : ∃ R, LA wx R g s ∧ (∀ k, R k → w.heap.size ≤ k) ∧ (∀ b, vw.ownBlock = some b → ¬ R b) ∧ (∀ b, vs.ownBlock = some b → ¬ R b)
  wf : Wf s
  below : Below w.heap.size w wx
  ow : wx.ownsRow w.heap.size 44 3 vw W.length (cells qenc W)
  os : wx.ownsRow w.heap.size 44 3 vs S.length (cells qenc S)
  ap : Disj vw vs
theorem OM.swap {w wx : World} {g : Nat} {s : LS} {vw vs : Value} {W S : List Qk} (h : OM w wx g s vw vs W S) : OM w wx g s vs vw S W := by
  obtain ⟨R, h1, h2, h3, h4⟩ := h.st
  exact ⟨⟨R, h1, h2, h4, h3⟩, h.wf, h.below, h.os, h.ow, h.ap.symm⟩
theorem OM.more {w wx w2 : World} {g : Nat} {s : LS} {vw vs : Value} {W S : List Qk} (h : OM w wx g s vw vs W S) (hb : Below wx.heap.size wx w2) : OM w w2 g s vw vs W S := by
  obtain ⟨R, h1, h2⟩ := h.st
  exact ⟨⟨R, h1.below hb, h2⟩, h.wf, bnext h.below hb, own_belowG h.ow hb, own_belowG h.os hb, h.ap⟩
theorem OM.of_st {w wx : World} {g : Nat} {s : LS} (h : St w wx g s) : OM w wx g s (.slice none 0 0) (.slice none 0 0) [] [] := by
  obtain ⟨R, h1, h2⟩ := h.la
  exact ⟨⟨R, h1, h2, fun b e => (by cases e), fun b e => (by cases e)⟩, h.wf, h.below, World.ownsRow_nil _ _ _ _, World.ownsRow_nil _ _ _ _, fun k e => by cases e⟩
theorem OM.run {w wx : World} {g : Nat} {s s2 : LS} {vw vs : Value} {W S : List Qk} {P : Program} {f : FuncId} {args : Array Value} {Q : Ending → World → Prop} (h : OM w wx g s vw vs W S) (hw : Wf s2)
    (hc : ∀ R, LA wx R g s → Calls P f args wx fun e w2 => Q e w2 ∧ To wx w2 R g s2) : Calls P f args wx fun e w2 => Q e w2 ∧ OM w w2 g s2 vw vs W S := by
  obtain ⟨R, h1, h2, h3, h4⟩ := h.st
  refine (hc R h1).mono fun e w2 ⟨hq, R', t1, t2, t3⟩ => ⟨hq, ⟨R', t1, fun k hk => (t3 k hk).elim (h2 k) fun e => Nat.le_trans h.below.size e, fun b e hr => ?_, fun b e hr => ?_⟩, hw, t2.below h.below h2 h.below.size, own_turn h.ow t2 h3, own_turn h.os t2 h4, h.ap⟩
  · have := (h.ow.lt b e).2
    exact (t3 b hr).elim (h3 b e) fun h => by omega
  · have := (h.os.lt b e).2
    exact (t3 b hr).elim (h4 b e) fun h => by omega
/-- .. beside a block that was laid since -/
theorem OM.runB {w wr w3 : World} {g k e : Nat} {X : List Value} {s s2 : LS} {vw vs : Value} {W S : List Qk} {P : Program} {f : FuncId} {args : Array Value} {Q : Ending → World → Prop} (h : OM w wr g s vw vs W S) (hb : Below wr.heap.size wr w3) (hk : wr.heap.size ≤ k) (hB : Blk w3 k e X) (hw : Wf s2)
    (hc : ∀ R, LA w3 R g s → Calls P f args w3 fun e w2 => Q e w2 ∧ To w3 w2 R g s2) : Calls P f args w3 fun en w2 => Q en w2 ∧ OM w w2 g s2 vw vs W S ∧ Blk w2 k e X := by
  have h' := h.more hb
  obtain ⟨R, h1, h2, h3, h4⟩ := h.st
  refine (hc R (h1.below hb)).mono fun e w2 ⟨hq, R', t1, t2, t3⟩ => ⟨hq, ⟨⟨R', t1, fun k hk => (t3 k hk).elim (h2 k) fun e => Nat.le_trans h'.below.size e, fun b e hr => ?_, fun b e hr => ?_⟩, hw, t2.below h'.below h2 h'.below.size, own_turn h'.ow t2 h3, own_turn h'.os t2 h4, h.ap⟩, blk_turn hB t2 fun hr => by have := h1.lt _ hr; omega⟩
  · have := (h'.ow.lt b e).2
    exact (t3 b hr).elim (h3 b e) fun h => by omega
  · have := (h'.os.lt b e).2
    exact (t3 b hr).elim (h4 b e) fun h => by omega
theorem OM.send {w wx : World} {g : Nat} {s : LS} {vw vs : Value} {W S : List Qk} (h : OM w wx g s vw vs W S) (a b : Int) (ha : I64 a) (hb : I64 b) (p : Option Addr) (c : Nat) (d : T) (hp : In8 wx p d) (hn : p = none → c = 0) (hd : d.length ≤ 140737488355328) :
    Calls Try.prog 12 #[ptr g, .int .i64 a, .int .i64 b, .slice p d.length c] wx fun e w2 => e = .returned (err (sendP s a b d).1) ∧ OM w w2 g (sendP s a b d).2 vw vs W S :=
  h.run (h.wf.send a b d) fun _ hR => send_c hR h.wf a b ha hb p c d hp hn hd
theorem OM.heal {w wx : World} {g : Nat} {s : LS} {vw vs : Value} {W S : List Qk} (h : OM w wx g s vw vs W S) :
    Calls Try.prog 18 #[ptr g] wx fun e w2 => e = .returned (.tuple #[]) ∧ OM w w2 g (healP s) vw vs W S :=
  h.run h.wf.heal fun _ hR => heal_c hR
theorem OM.next {w wx : World} {g : Nat} {s : LS} {vw vs : Value} {W S : List Qk} (h : OM w wx g s vw vs W S) :
    Calls Try.prog 15 #[ptr g] wx fun e w2 => e = .returned (.int .i64 (nextP s)) ∧ OM w w2 g s vw vs W S := by
  obtain ⟨R, h1, _⟩ := h.st
  exact (next_c h1 h.wf).mono fun e w2 ⟨e1, e2⟩ => ⟨e1, h.more e2⟩
theorem OM.opened {w wx : World} {g : Nat} {s : LS} {vw vs : Value} {W S : List Qk} (h : OM w wx g s vw vs W S) (a b : Int) (ha : I64 a) (hb : I64 b) :
    Calls Try.prog 13 #[ptr g, .int .i64 a, .int .i64 b] wx fun e w2 => e = .returned (.bool (openP s a b)) ∧ OM w w2 g s vw vs W S := by
  obtain ⟨R, h1, _⟩ := h.st
  exact (open_c h1 h.wf a b ha hb).mono fun e w2 ⟨e1, e2⟩ => ⟨e1, h.more e2⟩
theorem OM.count {w wx : World} {g : Nat} {s : LS} {vw vs : Value} {W S : List Qk} (h : OM w wx g s vw vs W S) :
    Calls Try.prog 17 #[ptr g] wx fun e w2 => e = .returned (err s.ps.length) ∧ wx = w2 := by
  obtain ⟨R, h1, _⟩ := h.st
  exact count_c h1
/-- a packet that is taken: its bytes can be read -/
def TookA (w2 : World) (x : Pk) (n : Nat) (e : Ending) : Prop := ∃ p c, e = .returned (.tuple #[.agg #[.int .i64 (x.a : Nat), .int .i64 (x.b : Nat), .slice p x.d.length c], err n]) ∧ In8 w2 p x.d
theorem OM.take {w wx : World} {g : Nat} {s : LS} {vw vs : Value} {W S : List Qk} (h : OM w wx g s vw vs W S) (k : Int) (hk : I64 k) :
    Calls Try.prog 14 #[ptr g, .int .i64 k] wx fun e w2 => TookA w2 (takeP s k).1 (takeP s k).2.1 e ∧ OM w w2 g (takeP s k).2.2 vw vs W S :=
  h.run (h.wf.take k) fun _ hR => (take_c hR h.wf k hk).mono fun _ _ ⟨v, e1, e2, e3⟩ => ⟨(by
    obtain ⟨p, c, rfl⟩ := own_slice e2.1
    obtain ⟨_, p2, c2, h4, h5⟩ := own_in8 e2.1
    injection h4 with h4
    subst h4
    exact ⟨_, _, e1, h5⟩), e3⟩
/-- a packet more is wanted -/
theorem OM.want {w wx w2 : World} {g : Nat} {s : LS} {vw vs v2 : Value} {W S : List Qk} (h : OM w wx g s vw vs W S) (x : Qk) (o : Obj) (hg : (wx.alloc o).grownBy w2 vw.ownBlock) (how : w2.ownsRow w.heap.size 44 3 v2 (W.length + 1) (cells qenc W ++ qenc x)) (hv : ∀ b, v2.ownBlock = some b → vw.ownBlock = some b ∨ wx.heap.size ≤ b) : OM w w2 g s v2 vs (W ++ [x]) S := by
  obtain ⟨R, h1, h2, h3, h4⟩ := h.st
  have ht : Turn (fun k => vw.ownBlock = some k) wx w2 := (Turn.alloc _ _ _).next (Turn.of_row hg fun b e => e)
  refine ⟨⟨R, h1.turn ht fun k hk e => h3 k e hk, h2, fun b e hr => (hv b e).elim (fun e2 => h3 b e2 hr) fun e2 => by have := h1.lt b hr; omega, h4⟩, h.wf, ht.below h.below (fun b e => (h.ow.lt b e).1) h.below.size, ?_, own_turn h.os ht fun b e e2 => h.ap b e2 e, fun k e1 e2 => ?_⟩
  · rw [cells_append, cells_one, List.length_append, List.length_singleton]
    exact how
  · rcases hv k e1 with e3 | e3
    · exact h.ap k e3 e2
    · have := (h.os.lt k e2).2
      omega
end Go.Proofs.Ytdjgafemmihlgaa.lan
