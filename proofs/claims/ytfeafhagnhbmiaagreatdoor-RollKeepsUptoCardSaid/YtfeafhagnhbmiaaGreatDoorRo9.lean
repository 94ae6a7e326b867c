/- The developers' mayBe. No condition beyond what slices and texts are. -/
import Derived.Test.YtfeafhagnhbmiaaGreatDoorRo8
namespace Go.Proofs.YtfeafhagnhbmiaaGreatDoor.rol
open Go.RowKit
open Go.Proofs.YtfeafhagnhbmiaaGreatDoor.oct Go.Proofs.YtfeafhagnhbmiaaGreatDoor.ref Go.Proofs.YtfeafhagnhbmiaaGreatDoor.rows Go.Proofs.YtfeafhagnhbmiaaGreatDoor.rowg
open Go.Proofs.YtfeafhagnhbmiaaGreatDoor.scp (tx senc senc_len InS Lst lval)

set_option maxRecDepth 100000 in
set_option maxHeartbeats 8000000 in
theorem mayBe_c (x : Cm) (w : World) (hg : GoodC w x) :
    Calls Tryz.prog 31 #[cval x] w fun e w' => e = .returned (.bool (rightB x.ct)) ∧ Below w.heap.size w w' := by
  obtain ⟨w1, hw1, hb1, hB, hrest⟩ := box_c w (tx x.id) (tx x.sec) (.bool x.pub) (lval x.red) (lval x.sco) (lval x.gra) 49
  have HB := Lib.hid hb1
  have H1 : Hid (∀ W, Below w1.heap.size w1 W → Calls Tryz.prog 56 #[tx x.id, .int .i64 64] W fun e w' => e = .returned (.bool (prB x.id 64)) ∧ W = w') := Lib.hid fun W _ => isText64 x.id W
  have H2 : Hid (∀ W, Below w1.heap.size w1 W → Calls Tryz.prog 57 #[cval x] W fun e w' => e = .returned (.bool (secB x.pub x.sec)) ∧ Below W.heap.size W w') := Lib.hid fun W _ => secretMayBe_c x W
  have H3 : Hid (∀ W, Below w1.heap.size w1 W → Calls Tryz.prog 58 #[cval x] W fun e w' => e = .returned (.bool (redB x.red.2.2)) ∧ Below W.heap.size W w') := Lib.hid fun W hW => redirectsMayBe_c x W ((hg.red.below hb1).below hW)
  have H4 : Hid (∀ W, Below w1.heap.size w1 W → Calls Tryz.prog 59 #[cval x] W fun e w' => e = .returned (.bool (scoB x.sco.2.2)) ∧ Below W.heap.size W w') := Lib.hid fun W hW => scopesMayBe_c x W ((hg.sco.below hb1).below hW)
  have H5 : Hid (∀ W, Below w1.heap.size w1 W → Calls Tryz.prog 60 #[cval x] W fun e w' => e = .returned (.bool (graB x.pub x.gra.2.2)) ∧ Below W.heap.size W w') := Lib.hid fun W hW => grantsMayBe_c x W ((hg.gra.below hb1).below hW)
  have HS : Hid (rightB x.ct = (prB x.id 64 && (secB x.pub x.sec && (redB x.red.2.2 && (scoB x.sco.2.2 && graB x.pub x.gra.2.2))))) := rfl
  have HX : Hid (∀ W, Below w1.heap.size w1 W → Blk W w.heap.size 49 [tx x.id, tx x.sec, .bool x.pub, lval x.red, lval x.sco, lval x.gra]) := Lib.hid fun W hW => hB.below hW
  have HB0 : Hid (Below w1.heap.size w1 w1) := Lib.hid (Below.refl _ _)
  unfold cval at H2 H3 H4 H5 ⊢
  obtain ⟨b1, e1⟩ : ∃ b, prB x.id 64 = b := ⟨_, rfl⟩
  obtain ⟨b2, e2⟩ : ∃ b, secB x.pub x.sec = b := ⟨_, rfl⟩
  obtain ⟨b3, e3⟩ : ∃ b, redB x.red.2.2 = b := ⟨_, rfl⟩
  obtain ⟨b4, e4⟩ : ∃ b, scoB x.sco.2.2 = b := ⟨_, rfl⟩
  obtain ⟨b5, e5⟩ : ∃ b, graB x.pub x.gra.2.2 = b := ⟨_, rfl⟩
  obtain ⟨b6, e6⟩ : ∃ b, rightB x.ct = b := ⟨_, rfl⟩
  rw [e1, e2, e3, e4, e5, e6] at HS
  rw [e1] at H1
  rw [e2] at H2
  rw [e3] at H3
  rw [e4] at H4
  rw [e5] at H5
  rw [e6]
  clear e1 e2 e3 e4 e5 e6 hb1 hB hg hrest
  obtain ⟨v0, h0⟩ : ∃ v : T, x.id = v := ⟨_, rfl⟩
  obtain ⟨v1, h1⟩ : ∃ v : T, x.sec = v := ⟨_, rfl⟩
  obtain ⟨v2, h2⟩ : ∃ v, x.pub = v := ⟨_, rfl⟩
  obtain ⟨P3, C3, n3, h3⟩ : ∃ P C n, lval x.red = .slice P n C := ⟨_, _, _, rfl⟩
  obtain ⟨P4, C4, n4, h4⟩ : ∃ P C n, lval x.sco = .slice P n C := ⟨_, _, _, rfl⟩
  obtain ⟨P5, C5, n5, h5⟩ : ∃ P C n, lval x.gra = .slice P n C := ⟨_, _, _, rfl⟩
  rw [h0, h1, h2, h3, h4, h5] at H2 H3 H4 H5 HX hw1 ⊢
  rw [h0] at H1
  clear h0 h1 h2 h3 h4 h5
  unfold tx at H1 H2 H3 H4 H5 HX hw1 ⊢
  obtain ⟨c0, c1, c2, c3, c4, c5⟩ := blk6 (HX.out w1 HB0.out)
  go_enter Tryz.func31, Tryz.ntmps31
  cases b1 with
  | false =>
    go_wp2_with (go_at_call 56; (with_reducible refine (H1.out _ HB0.out).mono ?_); rintro e w2 ⟨rfl, rfl⟩)
    go_ret
    exact ⟨ret_bool (by rw [HS.out]; rfl), HB.out⟩
  | true =>
    cases b2 with
    | false =>
      go_wp2_with (first
        | (go_at_call 56; (with_reducible refine (H1.out _ HB0.out).mono ?_); rintro e w2 ⟨rfl, rfl⟩)
        | (go_at_call 57; (with_reducible refine (H2.out _ HB0.out).mono ?_); rintro e w2 ⟨rfl, hb2⟩; have HB2 := Lib.hid (bnext HB0.out hb2); obtain ⟨d0, d1, d2, d3, d4, d5⟩ := blk6 (HX.out w2 HB2.out); clear hb2))
      go_ret
      exact ⟨ret_bool (by rw [HS.out]; rfl), bnext HB.out HB2.out⟩
    | true =>
      cases b3 with
      | false =>
        go_wp2_with (first
          | (go_at_call 56; (with_reducible refine (H1.out _ HB0.out).mono ?_); rintro e w2 ⟨rfl, rfl⟩)
          | (go_at_call 57; (with_reducible refine (H2.out _ HB0.out).mono ?_); rintro e w2 ⟨rfl, hb2⟩; have HB2 := Lib.hid (bnext HB0.out hb2); obtain ⟨d0, d1, d2, d3, d4, d5⟩ := blk6 (HX.out w2 HB2.out); clear hb2)
          | (go_at_call 58; (with_reducible refine (H3.out _ HB2.out).mono ?_); rintro e w3 ⟨rfl, hb2⟩; have HB3 := Lib.hid (bnext HB2.out hb2); obtain ⟨d0, d1, d2, d3, d4, d5⟩ := blk6 (HX.out w3 HB3.out); clear hb2))
        go_ret
        exact ⟨ret_bool (by rw [HS.out]; rfl), bnext HB.out HB3.out⟩
      | true =>
        cases b4 with
        | false =>
          go_wp2_with (first
            | (go_at_call 56; (with_reducible refine (H1.out _ HB0.out).mono ?_); rintro e w2 ⟨rfl, rfl⟩)
            | (go_at_call 57; (with_reducible refine (H2.out _ HB0.out).mono ?_); rintro e w2 ⟨rfl, hb2⟩; have HB2 := Lib.hid (bnext HB0.out hb2); obtain ⟨d0, d1, d2, d3, d4, d5⟩ := blk6 (HX.out w2 HB2.out); clear hb2)
            | (go_at_call 58; (with_reducible refine (H3.out _ HB2.out).mono ?_); rintro e w3 ⟨rfl, hb2⟩; have HB3 := Lib.hid (bnext HB2.out hb2); obtain ⟨d0, d1, d2, d3, d4, d5⟩ := blk6 (HX.out w3 HB3.out); clear hb2)
            | (go_at_call 59; (with_reducible refine (H4.out _ HB3.out).mono ?_); rintro e w4 ⟨rfl, hb2⟩; have HB4 := Lib.hid (bnext HB3.out hb2); obtain ⟨d0, d1, d2, d3, d4, d5⟩ := blk6 (HX.out w4 HB4.out); clear hb2))
          go_ret
          exact ⟨ret_bool (by rw [HS.out]; rfl), bnext HB.out HB4.out⟩
        | true =>
          go_wp2_with (first
            | (go_at_call 56; (with_reducible refine (H1.out _ HB0.out).mono ?_); rintro e w2 ⟨rfl, rfl⟩)
            | (go_at_call 57; (with_reducible refine (H2.out _ HB0.out).mono ?_); rintro e w2 ⟨rfl, hb2⟩; have HB2 := Lib.hid (bnext HB0.out hb2); obtain ⟨d0, d1, d2, d3, d4, d5⟩ := blk6 (HX.out w2 HB2.out); clear hb2)
            | (go_at_call 58; (with_reducible refine (H3.out _ HB2.out).mono ?_); rintro e w3 ⟨rfl, hb2⟩; have HB3 := Lib.hid (bnext HB2.out hb2); obtain ⟨d0, d1, d2, d3, d4, d5⟩ := blk6 (HX.out w3 HB3.out); clear hb2)
            | (go_at_call 59; (with_reducible refine (H4.out _ HB3.out).mono ?_); rintro e w4 ⟨rfl, hb2⟩; have HB4 := Lib.hid (bnext HB3.out hb2); obtain ⟨d0, d1, d2, d3, d4, d5⟩ := blk6 (HX.out w4 HB4.out); clear hb2)
            | (go_at_call 60; (with_reducible refine (H5.out _ HB4.out).mono ?_); rintro e w5 ⟨rfl, hb2⟩; have HB5 := Lib.hid (bnext HB4.out hb2); clear hb2))
          go_ret
          exact ⟨ret_bool (by rw [HS.out]; rfl), bnext HB.out HB5.out⟩
end Go.Proofs.YtfeafhagnhbmiaaGreatDoor.rol
