/- The developers' May (written by tools/gen_gr5.py). No condition beyond what slices and texts are. -/
import Derived.Test.YthagdkipipldlaaGreatDoorGr5a
namespace Go.Proofs.YthagdkipipldlaaGreatDoor.gra
open Go.RowKit
open Go.Proofs.YthagdkipipldlaaGreatDoor.oct Go.Proofs.YthagdkipipldlaaGreatDoor.ref Go.Proofs.YthagdkipipldlaaGreatDoor.rows Go.Proofs.YthagdkipipldlaaGreatDoor.rowg Go.Proofs.YthagdkipipldlaaGreatDoor.mpt Go.Proofs.YthagdkipipldlaaGreatDoor.trn Go.Proofs.YthagdkipipldlaaGreatDoor.krd
open Go.Proofs.YthagdkipipldlaaGreatDoor.scp (tx senc senc_len senc_one InS ins_below ins_cell ins_new lt Lst lval lenc GoodL FitS own_good fit_set setP setP_len printP)

set_option maxRecDepth 100000 in
set_option maxHeartbeats 16000000 in
theorem may_c (x : CM) (w : World) (hx : GoodC w x) :
    Calls Tryz.prog 25 #[cval x] w fun e w' => e = .returned (.bool (mayG x.c)) ∧ Below w.heap.size w w' := by
  rw [← mayD_eq]
  obtain ⟨w1, hw1, hb1, hB⟩ := boxC w x 48
  have HB := Lib.hid hb1
  have hcell := fun W (hW : Below w1.heap.size w1 W) => cellsC (hB.below hW)
  have h1 := fun W => namedBy_c x.c.kind W
  have h2 := fun W => filled_c x W
  have h4 := fun W (hW : Below w1.heap.size w1 W) => fieldsMayBe_c x W ((hx.below hb1).below hW)
  have hz := mask_zero x.c
  have hm : mayD x.c = ((namedI x.c.kind).2 && zC x.c && idB x.c.fam && fieldsG x.c) := rfl
  obtain ⟨mn, e1⟩ : ∃ r, (namedI x.c.kind) = r := ⟨_, rfl⟩
  obtain ⟨M, e2⟩ : ∃ b, maskI x.c = b := ⟨_, rfl⟩
  obtain ⟨z, e3⟩ : ∃ b, zC x.c = b := ⟨_, rfl⟩
  obtain ⟨b5, e5⟩ : ∃ b, fieldsG x.c = b := ⟨_, rfl⟩
  obtain ⟨b7, e7⟩ : ∃ b, mayD x.c = b := ⟨_, rfl⟩
  rw [e1] at h1 hz hm
  rw [e2] at h2 hz
  rw [e3] at hz hm
  rw [e5] at h4 hm
  rw [e7] at hm ⊢
  clear e1 e2 e3 e5 e7 hB hb1 hx
  obtain ⟨n, b1⟩ := mn
  obtain ⟨⟨kind, fam, ser, tok, cl, us, sc, re, ch, me, ve, rf, edge⟩, P, R⟩ := x
  have HX : Hid (∀ W, Below w1.heap.size w1 W → W.cell? ⟨w.heap.size, 0, none⟩ = some (.int .i64 kind) ∧ W.cell? ⟨w.heap.size, 1, none⟩ = some (.string ⟨fam.toArray⟩) ∧ W.cell? ⟨w.heap.size, 2, none⟩ = some (.int .i64 ser) ∧ W.cell? ⟨w.heap.size, 3, none⟩ = some (.int .i64 tok) ∧ W.cell? ⟨w.heap.size, 4, none⟩ = some (.string ⟨cl.toArray⟩) ∧ W.cell? ⟨w.heap.size, 5, none⟩ = some (.string ⟨us.toArray⟩) ∧ W.cell? ⟨w.heap.size, 6, none⟩ = some (.slice P sc.length R) ∧ W.cell? ⟨w.heap.size, 7, none⟩ = some (.string ⟨re.toArray⟩) ∧ W.cell? ⟨w.heap.size, 8, none⟩ = some (.string ⟨ch.toArray⟩) ∧ W.cell? ⟨w.heap.size, 9, none⟩ = some (.string ⟨me.toArray⟩) ∧ W.cell? ⟨w.heap.size, 10, none⟩ = some (.string ⟨ve.toArray⟩) ∧ W.cell? ⟨w.heap.size, 11, none⟩ = some (.bool rf) ∧ W.cell? ⟨w.heap.size, 12, none⟩ = some (.int .i64 edge)) := fun W hW => by have h := hcell W hW; exact ⟨h.c0, h.c1, h.c2, h.c3, h.c4, h.c5, h.c6, h.c7, h.c8, h.c9, h.c10, h.c11, h.c12⟩
  unfold cval lval tx CM.l at *
  dsimp only at *
  have H1 : Hid (∀ W, Calls Tryz.prog 46 #[.int .i64 kind] W fun e w' => e = .returned (.tuple #[.int .u64 n, .bool b1]) ∧ w' = W) := h1
  have H2 : Hid (∀ W, Calls Tryz.prog 47 #[.agg #[.int .i64 kind, .string ⟨fam.toArray⟩, .int .i64 ser, .int .i64 tok, .string ⟨cl.toArray⟩, .string ⟨us.toArray⟩, .slice P sc.length R, .string ⟨re.toArray⟩, .string ⟨ch.toArray⟩, .string ⟨me.toArray⟩, .string ⟨ve.toArray⟩, .bool rf, .int .i64 edge]] W fun e w' => e = .returned (.int .u64 M) ∧ Below W.heap.size W w') := h2
  have H3 : Hid (∀ W, Calls Tryz.prog 48 #[.string ⟨fam.toArray⟩] W fun e w' => e = .returned (.bool (idB fam)) ∧ W = w') := fun W => isId_c fam W
  have H4 : Hid (∀ W, Below w1.heap.size w1 W → Calls Tryz.prog 49 #[.agg #[.int .i64 kind, .string ⟨fam.toArray⟩, .int .i64 ser, .int .i64 tok, .string ⟨cl.toArray⟩, .string ⟨us.toArray⟩, .slice P sc.length R, .string ⟨re.toArray⟩, .string ⟨ch.toArray⟩, .string ⟨me.toArray⟩, .string ⟨ve.toArray⟩, .bool rf, .int .i64 edge]] W fun e w' => e = .returned (.bool b5) ∧ Below W.heap.size W w') := h4
  obtain ⟨b4, e4⟩ : ∃ b, idB fam = b := ⟨_, rfl⟩
  rw [e4] at H3 hm
  have HM := Lib.hid hm
  have hd1 := HX.out w1 (Below.refl _ _)
  have HB0 := Lib.hid (Below.refl w1.heap.size w1)
  clear h1 h2 h4 hm e4 hcell
  obtain ⟨d0, d1, d2, d3, d4, d5, d6, d7, d8, d9, d10, d11, d12⟩ := hd1
  go_enter Tryz.func25, Tryz.ntmps25
  cases b1 with
  | false =>
    clear hz
    go_wp2_with (first
      | (go_at_call 46; (with_reducible refine (H1.out _).mono ?_); rintro e w2 ⟨rfl, rfl⟩)
      | (go_at_call 47; (with_reducible refine (H2.out _).mono ?_); rintro e w3 ⟨rfl, hb2⟩; have HB3 := Lib.hid (bnext HB0.out hb2); obtain ⟨d0, d1, d2, d3, d4, d5, d6, d7, d8, d9, d10, d11, d12⟩ := HX.out w3 HB3.out; clear hb2)
      | fail)
    go_ret
    exact ⟨ret_bool (by rw [HM.out]; rfl), bnext HB.out HB3.out⟩
  | true =>
    have hz2 := hz rfl
    clear hz
    obtain ⟨y1, f1⟩ : ∃ b, (bits .andNot .u64 M n == 0) = b := ⟨_, rfl⟩
    obtain ⟨y2, f2⟩ : ∃ b, (bits .and .u64 M (bits .and .u64 n 6) == bits .and .u64 n 6) = b := ⟨_, rfl⟩
    rw [f1, f2] at hz2
    subst hz2
    cases y1 with
    | false =>
      go_wp2_with (first
        | (go_at_call 46; (with_reducible refine (H1.out _).mono ?_); rintro e w2 ⟨rfl, rfl⟩)
        | (go_at_call 47; (with_reducible refine (H2.out _).mono ?_); rintro e w3 ⟨rfl, hb2⟩; have HB3 := Lib.hid (bnext HB0.out hb2); obtain ⟨d0, d1, d2, d3, d4, d5, d6, d7, d8, d9, d10, d11, d12⟩ := HX.out w3 HB3.out; clear hb2)
        | fail)
      go_ret
      exact ⟨ret_bool (by rw [HM.out]; rfl), bnext HB.out HB3.out⟩
    | true =>
      cases y2 with
      | false =>
        go_wp2_with (first
          | (go_at_call 46; (with_reducible refine (H1.out _).mono ?_); rintro e w2 ⟨rfl, rfl⟩)
          | (go_at_call 47; (with_reducible refine (H2.out _).mono ?_); rintro e w3 ⟨rfl, hb2⟩; have HB3 := Lib.hid (bnext HB0.out hb2); obtain ⟨d0, d1, d2, d3, d4, d5, d6, d7, d8, d9, d10, d11, d12⟩ := HX.out w3 HB3.out; clear hb2)
          | fail)
        go_ret
        exact ⟨ret_bool (by rw [HM.out]; rfl), bnext HB.out HB3.out⟩
      | true =>
        cases b4 with
        | false =>
          go_wp2_with (first
            | (go_at_call 46; (with_reducible refine (H1.out _).mono ?_); rintro e w2 ⟨rfl, rfl⟩)
            | (go_at_call 47; (with_reducible refine (H2.out _).mono ?_); rintro e w3 ⟨rfl, hb2⟩; have HB3 := Lib.hid (bnext HB0.out hb2); obtain ⟨d0, d1, d2, d3, d4, d5, d6, d7, d8, d9, d10, d11, d12⟩ := HX.out w3 HB3.out; clear hb2)
            | (go_at_call 48; (with_reducible refine (H3.out _).mono ?_); rintro e w4 ⟨rfl, rfl⟩)
            | fail)
          go_ret
          exact ⟨ret_bool (by rw [HM.out]; rfl), bnext HB.out HB3.out⟩
        | true =>
          go_wp2_with (first
            | (go_at_call 46; (with_reducible refine (H1.out _).mono ?_); rintro e w2 ⟨rfl, rfl⟩)
            | (go_at_call 47; (with_reducible refine (H2.out _).mono ?_); rintro e w3 ⟨rfl, hb2⟩; have HB3 := Lib.hid (bnext HB0.out hb2); obtain ⟨d0, d1, d2, d3, d4, d5, d6, d7, d8, d9, d10, d11, d12⟩ := HX.out w3 HB3.out; clear hb2)
            | (go_at_call 48; (with_reducible refine (H3.out _).mono ?_); rintro e w4 ⟨rfl, rfl⟩)
            | (go_at_call 49; (with_reducible refine (H4.out _ HB3.out).mono ?_); rintro e w5 ⟨rfl, hb2⟩; have HB5 := Lib.hid (bnext HB3.out hb2); clear hb2)
            | fail)
          go_ret
          exact ⟨ret_bool (by rw [HM.out]; rfl), bnext HB.out HB5.out⟩
end Go.Proofs.YthagdkipipldlaaGreatDoor.gra
