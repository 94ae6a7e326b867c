/- The reference's Scope, Redirect, Same. No condition beyond what slices and texts are. -/
import Derived.Test.YtfeafhagnhbmiaaGreatDoorRoN
import Derived.Test.YtfeafhagnhbmiaaGreatDoorRo2
namespace Go.Proofs.YtfeafhagnhbmiaaGreatDoor.rol
open Go.RowKit
open Go.Proofs.YtfeafhagnhbmiaaGreatDoor.oct Go.Proofs.YtfeafhagnhbmiaaGreatDoor.ref Go.Proofs.YtfeafhagnhbmiaaGreatDoor.rows Go.Proofs.YtfeafhagnhbmiaaGreatDoor.rowg Go.Proofs.YtfeafhagnhbmiaaGreatDoor.trn
open Go.Proofs.YtfeafhagnhbmiaaGreatDoor.scp (tx senc senc_len InS ins_below ins_cell lt hasB hasB_iff Lst lval lenc GoodL FitS setP withinP RowA own_good fit_set setP_len rset_c rhas_c)

set_option maxRecDepth 100000 in
set_option maxHeartbeats 1000000 in
theorem same15_c (x y : Cm) (w : World) (hx : GoodC w x) (hy : GoodC w y) (h : x.ct = y.ct) :
    Calls Tryz.prog 15 #[cval x, cval y] w fun e w' => e = .returned (.bool true) ∧ Below w.heap.size w w' := by
  obtain ⟨id, sec, pub, ⟨P3, C3, l3⟩, ⟨P4, C4, l4⟩, ⟨P5, C5, l5⟩⟩ := x
  obtain ⟨id2, sec2, pub2, ⟨Q3, D3, m3⟩, ⟨Q4, D4, m4⟩, ⟨Q5, D5, m5⟩⟩ := y
  unfold Cm.ct at h
  injection h with e1 e2 e3 e4 e5 e6
  dsimp only at e1 e2 e3 e4 e5 e6
  subst e1 e2 e3 e4 e5 e6
  show Calls _ _ #[.agg #[.string ⟨id.toArray⟩, .string ⟨sec.toArray⟩, .bool pub, .slice P3 l3.length C3, .slice P4 l4.length C4, .slice P5 l5.length C5], .agg #[.string ⟨id.toArray⟩, .string ⟨sec.toArray⟩, .bool pub, .slice Q3 l3.length D3, .slice Q4 l4.length D4, .slice Q5 l5.length D5]] w fun e w' => e = .returned (.bool true) ∧ _
  obtain ⟨w1, hw1, hb1, hB, hrest⟩ := box_c w (.string ⟨id.toArray⟩) (.string ⟨sec.toArray⟩) (.bool pub) (.slice P3 l3.length C3) (.slice P4 l4.length C4) (.slice P5 l5.length C5) 27
  obtain ⟨w2, hw2, hb2, hB2, hrest2⟩ := box_c w1 (.string ⟨id.toArray⟩) (.string ⟨sec.toArray⟩) (.bool pub) (.slice Q3 l3.length D3) (.slice Q4 l4.length D4) (.slice Q5 l5.length D5) 27
  have hb := bnext hb1 hb2
  have H3 : Hid (∀ W, Below w2.heap.size w2 W → Calls Tryz.prog 32 #[.slice P3 l3.length C3, .slice Q3 l3.length D3] W fun e w' => e = .returned (.bool true) ∧ Below W.heap.size W w') := Lib.hid fun W hW => (tsame_l (x := (P3, C3, l3)) (y := (Q3, D3, l3)) (ins_below (ins_below hx.red.row hb) hW) (ins_below (ins_below hy.red.row hb) hW) (by have : l3.length ≤ _ := hx.red.reach; show l3.length ≤ _; omega) (by have : l3.length ≤ _ := hx.red.reach; show l3.length ≤ _; omega)).mono fun e w' ⟨q1, q2⟩ => ⟨by rw [q1]; simp, q2⟩
  have H4 : Hid (∀ W, Below w2.heap.size w2 W → Calls Tryz.prog 32 #[.slice P4 l4.length C4, .slice Q4 l4.length D4] W fun e w' => e = .returned (.bool true) ∧ Below W.heap.size W w') := Lib.hid fun W hW => (tsame_l (x := (P4, C4, l4)) (y := (Q4, D4, l4)) (ins_below (ins_below hx.sco.row hb) hW) (ins_below (ins_below hy.sco.row hb) hW) (by have : l4.length ≤ _ := hx.sco.reach; show l4.length ≤ _; omega) (by have : l4.length ≤ _ := hx.sco.reach; show l4.length ≤ _; omega)).mono fun e w' ⟨q1, q2⟩ => ⟨by rw [q1]; simp, q2⟩
  have H5 : Hid (∀ W, Below w2.heap.size w2 W → Calls Tryz.prog 32 #[.slice P5 l5.length C5, .slice Q5 l5.length D5] W fun e w' => e = .returned (.bool true) ∧ Below W.heap.size W w') := Lib.hid fun W hW => (tsame_l (x := (P5, C5, l5)) (y := (Q5, D5, l5)) (ins_below (ins_below hx.gra.row hb) hW) (ins_below (ins_below hy.gra.row hb) hW) (by have : l5.length ≤ _ := hx.gra.reach; show l5.length ≤ _; omega) (by have : l5.length ≤ _ := hx.gra.reach; show l5.length ≤ _; omega)).mono fun e w' ⟨q1, q2⟩ => ⟨by rw [q1]; simp, q2⟩
  have HX : Hid (∀ W, Below w2.heap.size w2 W → Blk W w.heap.size 27 [.string ⟨id.toArray⟩, .string ⟨sec.toArray⟩, .bool pub, .slice P3 l3.length C3, .slice P4 l4.length C4, .slice P5 l5.length C5]) := Lib.hid fun W hW => (hB.below hb2).below hW
  have HY : Hid (∀ W, Below w2.heap.size w2 W → Blk W w1.heap.size 27 [.string ⟨id.toArray⟩, .string ⟨sec.toArray⟩, .bool pub, .slice Q3 l3.length D3, .slice Q4 l4.length D4, .slice Q5 l5.length D5]) := Lib.hid fun W hW => hB2.below hW
  have HB0 : Hid (Below w2.heap.size w2 w2) := Lib.hid (Below.refl _ _)
  have HBB := Lib.hid hb
  obtain ⟨n3, hn3⟩ : ∃ n, l3.length = n := ⟨_, rfl⟩
  obtain ⟨n4, hn4⟩ : ∃ n, l4.length = n := ⟨_, rfl⟩
  obtain ⟨n5, hn5⟩ : ∃ n, l5.length = n := ⟨_, rfl⟩
  rw [hn3, hn4, hn5] at HX HY hw1 hw2 ⊢
  rw [hn3] at H3
  rw [hn4] at H4
  rw [hn5] at H5
  clear hx hy hb1 hB hrest hb2 hB2 hrest2 hb hn3 hn4 hn5
  obtain ⟨c0, c1, c2, c3, c4, c5⟩ := blk6 (HX.out w2 HB0.out)
  obtain ⟨d0, d1, d2, d3, d4, d5⟩ := blk6 (HY.out w2 HB0.out)
  go_enter Tryz.func15, Tryz.ntmps15
  go_wp2_with (first
    | (go_at_call_of 32 (Value.slice P3 n3 C3); (with_reducible refine (H3.out _ HB0.out).mono ?_); rintro e wa ⟨rfl, hba⟩; have HBA := Lib.hid (bnext HB0.out hba); obtain ⟨c0, c1, c2, c3, c4, c5⟩ := blk6 (HX.out wa HBA.out); obtain ⟨d0, d1, d2, d3, d4, d5⟩ := blk6 (HY.out wa HBA.out); clear hba)
    | (go_at_call_of 32 (Value.slice P4 n4 C4); (with_reducible refine (H4.out _ HBA.out).mono ?_); rintro e wb ⟨rfl, hba⟩; have HBC := Lib.hid (bnext HBA.out hba); obtain ⟨c0, c1, c2, c3, c4, c5⟩ := blk6 (HX.out wb HBC.out); obtain ⟨d0, d1, d2, d3, d4, d5⟩ := blk6 (HY.out wb HBC.out); clear hba)
    | (go_at_call_of 32 (Value.slice P5 n5 C5); (with_reducible refine (H5.out _ HBC.out).mono ?_); rintro e wc ⟨rfl, hba⟩; have HBD := Lib.hid (bnext HBC.out hba); clear hba))
  go_ret
  exact ⟨rfl, bnext HBB.out HBD.out⟩
end Go.Proofs.YtfeafhagnhbmiaaGreatDoor.rol
