/- The reference's Same at packets that are the same; the laws' fixed question. -/
import Derived.Test.YtdjgafemmihlgaaLan9
namespace Go.Proofs.Ytdjgafemmihlgaa.lan
open Go.RowKit
open Go.Proofs.Ytdjgafemmihlgaa.oct Go.Proofs.Ytdjgafemmihlgaa.ref Go.Proofs.Ytdjgafemmihlgaa.rows Go.Proofs.Ytdjgafemmihlgaa.rowg Go.Proofs.Ytdjgafemmihlgaa.trn
open Go.Lib (byteCells)

theorem below_drewN {B : Nat} {w w' : World} (h : Below B w w') (n : Nat) : Below B w (w'.drewN n) := ⟨h.os, h.tape, h.output, h.size, h.block⟩
set_option maxRecDepth 100000 in
set_option maxHeartbeats 4000000 in
theorem same_c (w : World) (a b : Nat) (p q : Option Addr) (c1 c2 : Nat) (d : T) (hp : In8 w p d) (hq : In8 w q d) (hd : d.length ≤ 140737488355328) :
    Calls Try.prog 16 #[.agg #[.int .i64 (a : Nat), .int .i64 (b : Nat), .slice p d.length c1], .agg #[.int .i64 (a : Nat), .int .i64 (b : Nat), .slice q d.length c2]] w fun e w' => e = .returned (.bool true) ∧ Below w.heap.size w w' := by
  have hb1 := (Below.refl w.heap.size w).alloc (Nat.le_refl _) (.cells #[.int .i64 (a : Nat), .int .i64 (b : Nat), .slice p d.length c1] 44)
  have hb2 := hb1.alloc hb1.size (.cells #[.int .i64 (a : Nat), .int .i64 (b : Nat), .slice q d.length c2] 44)
  have HP := Lib.hid (hp.below hb2)
  have HQ := Lib.hid (hq.below hb2)
  have HB := Lib.hid hb2
  have ea : ((a : Int) != (a : Int)) = false := by simp
  have eb : ((b : Int) != (b : Int)) = false := by simp
  have el : ((d.length : Int) != (d.length : Int)) = false := by simp
  clear hp hq hb1 hb2
  go_enter Try.func16, Try.ntmps16
  go_wp2_with fail
  have hB2 := blk_new (w.alloc (.cells #[.int .i64 (a : Nat), .int .i64 (b : Nat), .slice p d.length c1] 44)) #[.int .i64 (a : Nat), .int .i64 (b : Nat), .slice q d.length c2] 44 _ rfl
  rw [show (w.alloc (.cells #[.int .i64 (a : Nat), .int .i64 (b : Nat), .slice p d.length c1] 44)).heap.size = w.heap.size + 1 by simp] at hB2
  have hB1 : Blk ((w.alloc (.cells #[.int .i64 (a : Nat), .int .i64 (b : Nat), .slice p d.length c1] 44)).alloc (.cells #[.int .i64 (a : Nat), .int .i64 (b : Nat), .slice q d.length c2] 44)) w.heap.size 44 [.int .i64 (a : Nat), .int .i64 (b : Nat), .slice p d.length c1] := blk_old (blk_new w _ _ _ rfl) _
  obtain ⟨w1, hw1⟩ : ∃ w1, (w.alloc (.cells #[.int .i64 (a : Nat), .int .i64 (b : Nat), .slice p d.length c1] 44)).alloc (.cells #[.int .i64 (a : Nat), .int .i64 (b : Nat), .slice q d.length c2] 44) = w1 := ⟨_, rfl⟩
  rw [hw1] at HP HQ HB hB1 hB2 ⊢
  have x2 : w1.cell? ⟨w.heap.size, 2, none⟩ = some (.slice p d.length c1) := hB1.cell 2
  have y2 : w1.cell? ⟨w.heap.size + 1, 2, none⟩ = some (.slice q d.length c2) := hB2.cell 2
  clear hw1 hB1 hB2
  go_loopg [5] d.length (fun gk s5 wx => ∃ k : Nat, k + gk = d.length ∧ s5 = .int .i64 (k : Int) ∧ ∃ n, wx = w1.drewN n)
  case atStart => exact ⟨0, by omega, rfl, 0, rfl⟩
  case round =>
    obtain ⟨k, hk, rfl, n, rfl⟩ := hrel
    rcases gk with _ | gk
    · obtain rfl : k = d.length := by omega
      go_wp2_with fail
      go_ret
      exact ⟨rfl, below_drewN HB.out n⟩
    · have hlt : k < d.length := by omega
      have hltI : (k : Int) < d.length := by omega
      obtain ⟨bp, op, rfl, cp'⟩ := HP.out.at (by omega)
      obtain ⟨bq, oq, rfl, cq'⟩ := HQ.out.at (by omega)
      have z1 := cp' k hlt
      have z2 := cq' k hlt
      obtain ⟨u, hu⟩ : ∃ u, ((d.getD k 0).toNat : Int) = u := ⟨_, rfl⟩
      rw [hu] at z1 z2
      have eu : (u != u) = false := by simp
      clear cp' cq' hu
      go_wp2_with fail
      go_quiet (fail)
      go_wp2_with fail
      go_roundg gk
      case measure => omega
      case rel => exact ⟨k + 1, by omega, by go_num, _, rfl⟩
/-- how a lane stands in a law: beside what was there (B: whence its blocks come) -/
structure St (w w' : World) (g : Nat) (s : LS) : Prop where
  la : ∃ R, LA w' R g s ∧ ∀ k, R k → w.heap.size ≤ k
  wf : Wf s
  below : Below w.heap.size w w'
theorem St.of_new {w w' w1 : World} {g : Nat} {n : Nat} (hb : Below w.heap.size w w') {R : Nat → Prop} (h : LA w1 R g (newP n)) (hb1 : Below w'.heap.size w' w1) (hR : ∀ k, R k → w'.heap.size ≤ k) (h1 : 1 ≤ n) (h2 : n ≤ 32) : St w w1 g (newP n) :=
  ⟨⟨R, h, fun k hk => Nat.le_trans hb.size (hR k hk)⟩, Wf.new h1 h2, bnext hb hb1⟩
theorem St.to {w w1 w2 : World} {g : Nat} {s s2 : LS} (h : St w w1 g s) {R : Nat → Prop} (hR : ∀ k, R k → w.heap.size ≤ k) (ht : To w1 w2 R g s2) (hw : Wf s2) : St w w2 g s2 := by
  obtain ⟨R', h1, h2, h3⟩ := ht
  refine ⟨⟨R', h1, fun k hk => (h3 k hk).elim (hR k) fun e => Nat.le_trans h.below.size e⟩, hw, ?_⟩
  exact h2.below h.below hR h.below.size
theorem St.more {w w1 w2 : World} {g : Nat} {s : LS} (h : St w w1 g s) (hb : Below w1.heap.size w1 w2) : St w w2 g s := by
  obtain ⟨R, h1, h2⟩ := h.la
  exact ⟨⟨R, h1.below hb, h2⟩, h.wf, bnext h.below hb⟩
theorem St.send {w w1 : World} {g : Nat} {s : LS} (h : St w w1 g s) (a b : Int) (ha : I64 a) (hb : I64 b) (p : Option Addr) (c : Nat) (d : T) (hp : In8 w1 p d) (hn : p = none → c = 0) (hd : d.length ≤ 140737488355328) :
    Calls Try.prog 12 #[ptr g, .int .i64 a, .int .i64 b, .slice p d.length c] w1 fun e w2 => e = .returned (err (sendP s a b d).1) ∧ St w w2 g (sendP s a b d).2 := by
  obtain ⟨R, h1, h2⟩ := h.la
  exact (send_c h1 h.wf a b ha hb p c d hp hn hd).mono fun e w2 ⟨e1, e2⟩ => ⟨e1, h.to h2 e2 (h.wf.send a b d)⟩
theorem St.shut {w w1 : World} {g : Nat} {s : LS} (h : St w w1 g s) (hc : s.cn < 1000000) (a b : Int) (ha : I64 a) (hb : I64 b) :
    Calls Try.prog 11 #[ptr g, .int .i64 a, .int .i64 b] w1 fun e w2 => e = .returned (err (linkP s a b true).1) ∧ St w w2 g (linkP s a b true).2 := by
  obtain ⟨R, h1, h2⟩ := h.la
  exact (shut_c h1 h.wf hc a b ha hb).mono fun e w2 ⟨e1, e2⟩ => ⟨e1, h.to h2 e2 (h.wf.link a b true hc)⟩
theorem St.drop {w w1 : World} {g : Nat} {s : LS} (h : St w w1 g s) (k : Int) (hk : I64 k) :
    Calls Try.prog 20 #[ptr g, .int .i64 k] w1 fun e w2 => e = .returned (err (dropP s k).1) ∧ St w w2 g (dropP s k).2 := by
  obtain ⟨R, h1, h2⟩ := h.la
  exact (drop_c h1 h.wf k hk).mono fun e w2 ⟨e1, e2⟩ => ⟨e1, h.to h2 e2 (h.wf.drop k)⟩
theorem St.twice {w w1 : World} {g : Nat} {s : LS} (h : St w w1 g s) (k : Int) (hk : I64 k) :
    Calls Try.prog 19 #[ptr g, .int .i64 k] w1 fun e w2 => e = .returned (err (twiceP s k).1) ∧ St w w2 g (twiceP s k).2 := by
  obtain ⟨R, h1, h2⟩ := h.la
  exact (twice_c h1 h.wf k hk).mono fun e w2 ⟨e1, e2⟩ => ⟨e1, h.to h2 e2 (h.wf.twice k)⟩
theorem St.heal {w w1 : World} {g : Nat} {s : LS} (h : St w w1 g s) :
    Calls Try.prog 18 #[ptr g] w1 fun e w2 => e = .returned (.tuple #[]) ∧ St w w2 g (healP s) := by
  obtain ⟨R, h1, h2⟩ := h.la
  exact (heal_c h1).mono fun e w2 ⟨e1, e2⟩ => ⟨e1, h.to h2 e2 h.wf.heal⟩
theorem St.next {w w1 : World} {g : Nat} {s : LS} (h : St w w1 g s) :
    Calls Try.prog 15 #[ptr g] w1 fun e w2 => e = .returned (.int .i64 (nextP s)) ∧ St w w2 g s := by
  obtain ⟨R, h1, h2⟩ := h.la
  exact (next_c h1 h.wf).mono fun e w2 ⟨e1, e2⟩ => ⟨e1, h.more e2⟩
theorem St.opened {w w1 : World} {g : Nat} {s : LS} (h : St w w1 g s) (a b : Int) (ha : I64 a) (hb : I64 b) :
    Calls Try.prog 13 #[ptr g, .int .i64 a, .int .i64 b] w1 fun e w2 => e = .returned (.bool (openP s a b)) ∧ St w w2 g s := by
  obtain ⟨R, h1, h2⟩ := h.la
  exact (open_c h1 h.wf a b ha hb).mono fun e w2 ⟨e1, e2⟩ => ⟨e1, h.more e2⟩
theorem St.count {w w1 : World} {g : Nat} {s : LS} (h : St w w1 g s) :
    Calls Try.prog 17 #[ptr g] w1 fun e w2 => e = .returned (err s.ps.length) ∧ w1 = w2 := by
  obtain ⟨R, h1, h2⟩ := h.la
  exact count_c h1
/-- a packet that is taken in a law: its bytes are new to the law -/
def TakeS (w w' : World) (g : Nat) (q : Pk × Nat × LS) (e : Ending) : Prop := ∃ v, e = .returned (.tuple #[.agg #[.int .i64 (q.1.a : Nat), .int .i64 (q.1.b : Nat), v], err q.2.1]) ∧ w'.ownsRow w.heap.size 5 1 v q.1.d.length (byteCells q.1.d) ∧ St w w' g q.2.2
theorem own_raise {w : World} {B B2 e k n : Nat} {v : Value} {xs : List Value} (h : w.ownsRow B e k v n xs) (hb : ∀ b, v.ownBlock = some b → B2 ≤ b) : w.ownsRow B2 e k v n xs := by
  refine ⟨h.1, ?_⟩
  rcases h.2 with h2 | ⟨g, cap, cur, h1, h2, h3⟩
  · exact Or.inl h2
  · exact Or.inr ⟨g, cap, cur, h1, hb g (by rw [h1]; rfl), h3⟩
theorem St.take {w w1 : World} {g : Nat} {s : LS} (h : St w w1 g s) (k : Int) (hk : I64 k) :
    Calls Try.prog 14 #[ptr g, .int .i64 k] w1 fun e w2 => TakeS w w2 g (takeP s k) e := by
  obtain ⟨R, h1, h2⟩ := h.la
  exact (take_c h1 h.wf k hk).mono fun e w2 ⟨v, e1, ⟨e2, e3⟩, e4⟩ => ⟨v, e1, own_raise e2 fun b hb => (e3 b hb).elim (h2 b) fun e => Nat.le_trans h.below.size e, h.to h2 e4 (h.wf.take k)⟩
end Go.Proofs.Ytdjgafemmihlgaa.lan
