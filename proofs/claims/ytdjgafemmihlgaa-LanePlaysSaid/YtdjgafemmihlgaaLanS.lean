/- The reference's Own, At, Send, Twice, Link, Heal. -/
import Derived.Test.YtdjgafemmihlgaaLanR
namespace Go.Proofs.Ytdjgafemmihlgaa.lan
open Go.RowKit
open Go.Proofs.Ytdjgafemmihlgaa.oct Go.Proofs.Ytdjgafemmihlgaa.ref Go.Proofs.Ytdjgafemmihlgaa.rows Go.Proofs.Ytdjgafemmihlgaa.rowg Go.Proofs.Ytdjgafemmihlgaa.trn
open Go.Lib (byteCells)

theorem step_append_in8 {w : World} {ops : Array Oper} {o : Oper} {a : Act} {K : Act → World → Prop} {Q : Exit → Act → World → Prop} {E : Prop} (hgd : o.guard = none) (s x : Operand)
    (ho : o.op = .call { callee := .builtin .append, args := #[s, x], argTypes := #[35, 35] }) (base : Nat)
    (v : Value) (n : Nat) (xs : List Value) (hs : a.eval s = v) (hown : w.ownsRow base 5 1 v n xs) (q : Option Addr) (m cq : Nat) (l : T) (hx : a.eval x = .slice q m cq)
    (hq : In8 w q l) (hm : l.length = m) (hnil : q = none → cq = 0) (hb : n + m ≤ 140737488355328) (hbase : base ≤ w.heap.size)
    (h : ∀ v' w', w'.ownsRow base 5 1 v' (n + m) (xs ++ byteCells l) → w.grownBy w' v.ownBlock → K (a.put o.dst v') w') :
    if Region.wanted o (yielded ops a.tmps) = true then Oper.wp Try.prog o a w K Q else E := by
  have hw : Region.wanted o (yielded ops a.tmps) = true := by simp [Region.wanted, hgd]
  rw [if_pos hw]
  obtain ⟨j0, hj, hy0, hy1, hy2⟩ := info_parts infoByte
  subst hm
  rcases q with _ | ad
  · obtain rfl := in8_nil hq
    obtain rfl := hnil rfl
    have hrun := run_append_owned_none (P := Try.prog) (w := w) base 35 o.type 5 j0 1 Try.underlying35 hj v n xs hown
    have hx2 : a.eval x = .slice none 0 0 := hx
    unfold Oper.wp
    simp [execOp, ho, resolve, invoke, builtin, hs, hx2, hrun, Result.andThen]
    exact h v w (by simpa [byteCells] using hown) (World.grownBy.refl w _)
  · obtain ⟨v', w', hr, h2, h3, _, _⟩ := run_append_own_at (P := Try.prog) (w := w) base 35 o.type 5 j0 (.int .u8 0) 1 1 Try.underlying35 hj hy0 hy1 hy2 rfl (by decide) v n xs hown ad l.length cq (byteCells l) (by rw [byteCells_len]; omega) (src_cells hq) (byteCells_one l) (by unfold maxLen; omega) (by omega) hbase
    unfold Oper.wp execOp
    simp only [ho, resolve, invoke, builtin, Sem.run_bind, Sem.run_pure, Result.andThen_ok, List.map_toArray, List.map_cons, List.map_nil, hs, hx, hr]
    exact h v' w' h2 h3
set_option maxRecDepth 100000 in
set_option maxHeartbeats 4000000 in
theorem rown_c (w : World) (x : Qk) (hp : In8 w x.p x.d) (hn : x.p = none → x.c = 0) (hd : x.d.length ≤ 140737488355328) :
    Calls Try.prog 47 #[.agg (qenc x).toArray] w fun e w' => NewQ w w' x.f e := by
  obtain ⟨a, b, p, c, d⟩ := x
  dsimp only at hp hn hd
  have HN := Lib.hid hn
  have hbl := ((Below.refl w.heap.size w).alloc (Nat.le_refl _) (.cells #[.int .i64 (a : Nat), .int .i64 (b : Nat), .slice p d.length c] 44))
  have hbl2 := hbl.alloc hbl.size (.cells #[.int .i64 0, .int .i64 0, .slice none 0 0] 44)
  have hB1 : Blk ((w.alloc (.cells #[.int .i64 (a : Nat), .int .i64 (b : Nat), .slice p d.length c] 44)).alloc (.cells #[.int .i64 0, .int .i64 0, .slice none 0 0] 44)) w.heap.size 44 [.int .i64 (a : Nat), .int .i64 (b : Nat), .slice p d.length c] := blk_old (blk_new w _ _ _ rfl) _
  have hB2 := blk_new (w.alloc (.cells #[.int .i64 (a : Nat), .int .i64 (b : Nat), .slice p d.length c] 44)) #[.int .i64 0, .int .i64 0, .slice none 0 0] 44 [.int .i64 0, .int .i64 0, .slice none 0 0] rfl
  rw [show (w.alloc (.cells #[.int .i64 (a : Nat), .int .i64 (b : Nat), .slice p d.length c] 44)).heap.size = w.heap.size + 1 by simp] at hB2
  have HP := Lib.hid (hp.below hbl2)
  unfold qenc
  dsimp only
  have hs2 : ((w.alloc (.cells #[.int .i64 (a : Nat), .int .i64 (b : Nat), .slice p d.length c] 44)).alloc (.cells #[.int .i64 0, .int .i64 0, .slice none 0 0] 44)).heap.size = w.heap.size + 2 := by simp
  obtain ⟨w1, hw1⟩ : ∃ w1, (w.alloc (.cells #[.int .i64 (a : Nat), .int .i64 (b : Nat), .slice p d.length c] 44)).alloc (.cells #[.int .i64 0, .int .i64 0, .slice none 0 0] 44) = w1 := ⟨_, rfl⟩
  rw [hw1] at hbl2 hB1 hB2 HP hs2
  have HBL := Lib.hid hbl2
  have HB1 := Lib.hid hB1
  have HB2 := Lib.hid hB2
  have HS2 := Lib.hid hs2
  have c0 := hB1.cell 0
  have c1 := hB1.cell 1
  have c2 := hB1.cell 2
  have l1 := hB1.lt
  have l2 := hB2.lt
  clear hp hn hbl hbl2 hB1 hB2 hs2
  go_enter Try.func47, Try.ntmps47
  go_wp2_with fail
  clear hw1
  have k0 : w.heap.size ≠ w1.heap.size := Nat.ne_of_lt l1
  have k1 : w1.heap.size ≠ w.heap.size := Nat.ne_of_gt l1
  have k2 : w.heap.size + 1 ≠ w1.heap.size := Nat.ne_of_lt l2
  have k3 : w1.heap.size ≠ w.heap.size + 1 := Nat.ne_of_gt l2
  have hb3 := ((Below.refl w1.heap.size w1).alloc (Nat.le_refl _) (.cells #[] 5)).drew
  have HB3 := Lib.hid hb3
  clear hb3
  go_region_law (refine step_append_in8 rfl (.tmp 7) (.tmp 9) rfl w1.heap.size _ 0 [] rfl (own_nil w1).drew p d.length c d rfl (HP.out.below HB3.out) rfl HN.out (by omega) (by simp) ?_; intro va wa howa hgra; have hba : Below w1.heap.size w1 wa := HB3.out.grown hgra HB3.out.size (fun g hg => by injection hg with hg; rw [← hg]; exact Nat.le_refl _); rw [Nat.zero_add, List.nil_append] at howa; obtain ⟨q, k, rfl⟩ := own_slice howa; have HOW := Lib.hid howa; have HBA := Lib.hid hba; have hz := HB2.out.below hba; have HZ := Lib.hid hz; have z0 := hz.cell 0; have z1 := hz.cell 1; have z2 := hz.cell 2; have y0 := hz.frozen 0; have y1 := hz.frozen 1; have y2 := hz.frozen 2; have hb1a := HB1.out.below hba; have x0 := hb1a.cell 0; have x1 := hb1a.cell 1; have x2 := hb1a.cell 2; have l3 := hz.lt; have l4 := hb1a.lt; clear howa hgra hba hz hb1a)
  all_goals
    go_wp2_with fail
    refine bodyPost_ret (results_blk Try.results47 _ _ (w.heap.size + 1) 44 [.int .i64 (a : Nat), .int .i64 (b : Nat), .slice q d.length k] _ rfl (((HZ.out.set 0 _).set 1 _).set 2 _) Try.underlying44 rfl infoPk) rfl ?_
    have ht : Turn (fun i => i = w.heap.size + 1) wa (((wa.setCell ⟨w.heap.size + 1, 0, none⟩ (.int .i64 (a : Nat))).setCell ⟨w.heap.size + 1, 1, none⟩ (.int .i64 (b : Nat))).setCell ⟨w.heap.size + 1, 2, none⟩ (.slice q d.length k)) :=
      ((Turn.set (S := fun i => i = w.heap.size + 1) _ _ _ _ rfl).next (Turn.set (S := fun i => i = w.heap.size + 1) _ _ _ _ rfl)).next (Turn.set (S := fun i => i = w.heap.size + 1) _ _ _ _ rfl)
    refine ⟨_, rfl, own_base (own_turn HOW.out ht fun i hi he => ?_) (show w.heap.size ≤ w1.heap.size by omega), ?_⟩
    · have := (HOW.out.lt i hi).1
      omega
    · exact (((bnext HBL.out HBA.out).setCell (p := ⟨w.heap.size + 1, 0, none⟩) (Nat.le_succ _) _).setCell (p := ⟨w.heap.size + 1, 1, none⟩) (Nat.le_succ _) _).setCell (p := ⟨w.heap.size + 1, 2, none⟩) (Nat.le_succ _) _
end Go.Proofs.Ytdjgafemmihlgaa.lan
