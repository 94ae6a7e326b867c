/- The developers' fieldsMayBe (written by tools/gen_gr5.py). No condition beyond what slices and texts are. -/
import Derived.Test.YthagdkipipldlaaGreatDoorGr5
namespace Go.Proofs.YthagdkipipldlaaGreatDoor.gra
open Go.RowKit
open Go.Proofs.YthagdkipipldlaaGreatDoor.oct Go.Proofs.YthagdkipipldlaaGreatDoor.ref Go.Proofs.YthagdkipipldlaaGreatDoor.rows Go.Proofs.YthagdkipipldlaaGreatDoor.rowg Go.Proofs.YthagdkipipldlaaGreatDoor.mpt Go.Proofs.YthagdkipipldlaaGreatDoor.trn Go.Proofs.YthagdkipipldlaaGreatDoor.krd
open Go.Proofs.YthagdkipipldlaaGreatDoor.scp (tx senc senc_len senc_one InS ins_below ins_cell ins_new lt Lst lval lenc GoodL FitS own_good fit_set setP setP_len printP)

set_option maxRecDepth 100000 in
set_option maxHeartbeats 16000000 in
theorem fieldsMayBe_c (x : CM) (w : World) (hx : GoodC w x) :
    Calls Tryz.prog 49 #[cval x] w fun e w' => e = .returned (.bool (fieldsG x.c)) ∧ Below w.heap.size w w' := by
  obtain ⟨w1, hw1, hb1, hB⟩ := boxC w x 48
  have HB := Lib.hid hb1
  have hsc := fun W (hW : Below w1.heap.size w1 W) => (hx.sc.below hb1).below hW
  have hcell := fun W (hW : Below w1.heap.size w1 W) => cellsC (hB.below hW)
  clear hB hb1 hx
  obtain ⟨⟨kind, fam, ser, tok, cl, us, sc, re, ch, me, ve, rf, edge⟩, P, R⟩ := x
  have HX : Hid (∀ W, Below w1.heap.size w1 W → W.cell? ⟨w.heap.size, 0, none⟩ = some (.int .i64 kind) ∧ W.cell? ⟨w.heap.size, 1, none⟩ = some (.string ⟨fam.toArray⟩) ∧ W.cell? ⟨w.heap.size, 2, none⟩ = some (.int .i64 ser) ∧ W.cell? ⟨w.heap.size, 3, none⟩ = some (.int .i64 tok) ∧ W.cell? ⟨w.heap.size, 4, none⟩ = some (.string ⟨cl.toArray⟩) ∧ W.cell? ⟨w.heap.size, 5, none⟩ = some (.string ⟨us.toArray⟩) ∧ W.cell? ⟨w.heap.size, 6, none⟩ = some (.slice P sc.length R) ∧ W.cell? ⟨w.heap.size, 7, none⟩ = some (.string ⟨re.toArray⟩) ∧ W.cell? ⟨w.heap.size, 8, none⟩ = some (.string ⟨ch.toArray⟩) ∧ W.cell? ⟨w.heap.size, 9, none⟩ = some (.string ⟨me.toArray⟩) ∧ W.cell? ⟨w.heap.size, 10, none⟩ = some (.string ⟨ve.toArray⟩) ∧ W.cell? ⟨w.heap.size, 11, none⟩ = some (.bool rf) ∧ W.cell? ⟨w.heap.size, 12, none⟩ = some (.int .i64 edge)) := fun W hW => by have h := hcell W hW; exact ⟨h.c0, h.c1, h.c2, h.c3, h.c4, h.c5, h.c6, h.c7, h.c8, h.c9, h.c10, h.c11, h.c12⟩
  have H1 : Hid (Calls Tryz.prog 54 #[.slice (some ⟨w1.heap.size, 0, none⟩) 4 4] (w1.alloc (.cells #[.string ⟨cl.toArray⟩, .string ⟨us.toArray⟩, .string ⟨re.toArray⟩, .string ⟨ve.toArray⟩] 9)) fun e w' => e = .returned (.bool ([cl, us, re, ve].all shortB)) ∧ w1.alloc (.cells #[.string ⟨cl.toArray⟩, .string ⟨us.toArray⟩, .string ⟨re.toArray⟩, .string ⟨ve.toArray⟩] 9) = w') := areShort_c _ 4 [cl, us, re, ve] _ (four_row w1 cl us re ve _) (show 4 ≤ 140737488355328 by decide)
  have H2 : Hid (∀ W, Below w1.heap.size w1 W → Calls Tryz.prog 55 #[.slice P sc.length R] W fun e w' => e = .returned (.bool (fitB sc)) ∧ Below W.heap.size W w') := fun W hW => isFit_c (P, R, sc) W (hsc W hW)
  have H3 : Hid (∀ W, Calls Tryz.prog 77 #[.string ⟨ch.toArray⟩, .string ⟨me.toArray⟩] W fun e w' => e = .returned (.bool (shownB ch me)) ∧ Below W.heap.size W w') := fun W => isChallenge_c ch me W
  have H4 : Hid (∀ W, Calls Tryz.prog 78 #[.int .i64 ser, .int .i64 1099511627776] W fun e w' => e = .returned (.bool (inB ser 0 1099511627776)) ∧ W = w') := fun W => from0_c ser _ W
  have H5 : Hid (∀ W, Calls Tryz.prog 78 #[.int .i64 tok, .int .i64 3] W fun e w' => e = .returned (.bool (inB tok 0 3)) ∧ W = w') := fun W => from0_c tok _ W
  have H6 : Hid (∀ W, Calls Tryz.prog 79 #[.int .i64 edge] W fun e w' => e = .returned (.bool (inB edge 0 31)) ∧ W = w') := fun W => isEdge_c edge W
  have HS : Hid (fieldsG ⟨kind, fam, ser, tok, cl, us, sc, re, ch, me, ve, rf, edge⟩ = ([cl, us, re, ve].all shortB && fitB sc && shownB ch me && inB ser 0 1099511627776 && inB tok 0 3 && inB edge 0 31)) := rfl
  have HB0 : Hid (Below w1.heap.size w1 (w1.alloc (.cells #[.string ⟨cl.toArray⟩, .string ⟨us.toArray⟩, .string ⟨re.toArray⟩, .string ⟨ve.toArray⟩] 9))) := (Below.refl _ _).alloc (Nat.le_refl _) _
  have hd1 := HX.out w1 (Below.refl _ _)
  have hd2 := HX.out _ HB0.out
  have hw1' := hw1
  unfold cval lval tx CM.l
  unfold lval tx CM.l at hw1
  dsimp only at hw1 ⊢
  obtain ⟨b1, e1⟩ : ∃ b, [cl, us, re, ve].all shortB = b := ⟨_, rfl⟩
  obtain ⟨b2, e2⟩ : ∃ b, fitB sc = b := ⟨_, rfl⟩
  obtain ⟨b3, e3⟩ : ∃ b, shownB ch me = b := ⟨_, rfl⟩
  obtain ⟨b4, e4⟩ : ∃ b, inB ser 0 1099511627776 = b := ⟨_, rfl⟩
  obtain ⟨b5, e5⟩ : ∃ b, inB tok 0 3 = b := ⟨_, rfl⟩
  obtain ⟨b6, e6⟩ : ∃ b, inB edge 0 31 = b := ⟨_, rfl⟩
  obtain ⟨b7, e7⟩ : ∃ b, fieldsG ⟨kind, fam, ser, tok, cl, us, sc, re, ch, me, ve, rf, edge⟩ = b := ⟨_, rfl⟩
  rw [e1, e2, e3, e4, e5, e6, e7] at HS
  rw [e1] at H1
  rw [e2] at H2
  rw [e3] at H3
  rw [e4] at H4
  rw [e5] at H5
  rw [e6] at H6
  rw [e7]
  clear e1 e2 e3 e4 e5 e6 e7 hw1' hsc hcell
  obtain ⟨d0, d1, d2, d3, d4, d5, d6, d7, d8, d9, d10, d11, d12⟩ := hd1
  obtain ⟨f0, f1, f2, f3, f4, f5, f6, f7, f8, f9, f10, f11, f12⟩ := hd2
  go_enter Tryz.func49, Tryz.ntmps49
  cases b1 with
  | false =>
    
    go_wp2_with (first
      | (go_at_call 54; (with_reducible refine H1.out.mono ?_); rintro e w2 ⟨rfl, rfl⟩)
      | fail)
    go_ret
    exact ⟨ret_bool (by rw [HS.out]; rfl), bnext HB.out HB0.out⟩
  | true =>
    cases b2 with
    | false =>
      
      go_wp2_with (first
        | (go_at_call 54; (with_reducible refine H1.out.mono ?_); rintro e w2 ⟨rfl, rfl⟩)
        | (go_at_call 55; (with_reducible refine (H2.out _ HB0.out).mono ?_); rintro e w3 ⟨rfl, hb2⟩; have HB3 := Lib.hid (bnext HB0.out hb2); obtain ⟨d0, d1, d2, d3, d4, d5, d6, d7, d8, d9, d10, d11, d12⟩ := HX.out w3 HB3.out; clear hb2)
        | fail)
      go_ret
      exact ⟨ret_bool (by rw [HS.out]; rfl), bnext HB.out HB3.out⟩
    | true =>
      cases b3 with
      | false =>
        
        go_wp2_with (first
          | (go_at_call 54; (with_reducible refine H1.out.mono ?_); rintro e w2 ⟨rfl, rfl⟩)
          | (go_at_call 55; (with_reducible refine (H2.out _ HB0.out).mono ?_); rintro e w3 ⟨rfl, hb2⟩; have HB3 := Lib.hid (bnext HB0.out hb2); obtain ⟨d0, d1, d2, d3, d4, d5, d6, d7, d8, d9, d10, d11, d12⟩ := HX.out w3 HB3.out; clear hb2)
          | (go_at_call 77; (with_reducible refine (H3.out _).mono ?_); rintro e w4 ⟨rfl, hb2⟩; have HB4 := Lib.hid (bnext HB3.out hb2); obtain ⟨d0, d1, d2, d3, d4, d5, d6, d7, d8, d9, d10, d11, d12⟩ := HX.out w4 HB4.out; clear hb2)
          | fail)
        go_ret
        exact ⟨ret_bool (by rw [HS.out]; rfl), bnext HB.out HB4.out⟩
      | true =>
        cases b4 with
        | false =>
          
          go_wp2_with (first
            | (go_at_call 54; (with_reducible refine H1.out.mono ?_); rintro e w2 ⟨rfl, rfl⟩)
            | (go_at_call 55; (with_reducible refine (H2.out _ HB0.out).mono ?_); rintro e w3 ⟨rfl, hb2⟩; have HB3 := Lib.hid (bnext HB0.out hb2); obtain ⟨d0, d1, d2, d3, d4, d5, d6, d7, d8, d9, d10, d11, d12⟩ := HX.out w3 HB3.out; clear hb2)
            | (go_at_call 77; (with_reducible refine (H3.out _).mono ?_); rintro e w4 ⟨rfl, hb2⟩; have HB4 := Lib.hid (bnext HB3.out hb2); obtain ⟨d0, d1, d2, d3, d4, d5, d6, d7, d8, d9, d10, d11, d12⟩ := HX.out w4 HB4.out; clear hb2)
            | (go_at_call_of 78 (Value.int .i64 ser); (with_reducible refine (H4.out _).mono ?_); rintro e w5 ⟨rfl, rfl⟩)
            | fail)
          go_ret
          exact ⟨ret_bool (by rw [HS.out]; rfl), bnext HB.out HB4.out⟩
        | true =>
          cases b5 with
          | false =>
            
            go_wp2_with (first
              | (go_at_call 54; (with_reducible refine H1.out.mono ?_); rintro e w2 ⟨rfl, rfl⟩)
              | (go_at_call 55; (with_reducible refine (H2.out _ HB0.out).mono ?_); rintro e w3 ⟨rfl, hb2⟩; have HB3 := Lib.hid (bnext HB0.out hb2); obtain ⟨d0, d1, d2, d3, d4, d5, d6, d7, d8, d9, d10, d11, d12⟩ := HX.out w3 HB3.out; clear hb2)
              | (go_at_call 77; (with_reducible refine (H3.out _).mono ?_); rintro e w4 ⟨rfl, hb2⟩; have HB4 := Lib.hid (bnext HB3.out hb2); obtain ⟨d0, d1, d2, d3, d4, d5, d6, d7, d8, d9, d10, d11, d12⟩ := HX.out w4 HB4.out; clear hb2)
              | (go_at_call_of 78 (Value.int .i64 ser); (with_reducible refine (H4.out _).mono ?_); rintro e w5 ⟨rfl, rfl⟩)
              | (go_at_call 78; (with_reducible refine (H5.out _).mono ?_); rintro e w6 ⟨rfl, rfl⟩)
              | fail)
            go_ret
            exact ⟨ret_bool (by rw [HS.out]; rfl), bnext HB.out HB4.out⟩
          | true =>
            cases b6 with
            | false =>
              go_wp2_with (first
                | (go_at_call 54; (with_reducible refine H1.out.mono ?_); rintro e w2 ⟨rfl, rfl⟩)
                | (go_at_call 55; (with_reducible refine (H2.out _ HB0.out).mono ?_); rintro e w3 ⟨rfl, hb2⟩; have HB3 := Lib.hid (bnext HB0.out hb2); obtain ⟨d0, d1, d2, d3, d4, d5, d6, d7, d8, d9, d10, d11, d12⟩ := HX.out w3 HB3.out; clear hb2)
                | (go_at_call 77; (with_reducible refine (H3.out _).mono ?_); rintro e w4 ⟨rfl, hb2⟩; have HB4 := Lib.hid (bnext HB3.out hb2); obtain ⟨d0, d1, d2, d3, d4, d5, d6, d7, d8, d9, d10, d11, d12⟩ := HX.out w4 HB4.out; clear hb2)
                | (go_at_call_of 78 (Value.int .i64 ser); (with_reducible refine (H4.out _).mono ?_); rintro e w5 ⟨rfl, rfl⟩)
                | (go_at_call 78; (with_reducible refine (H5.out _).mono ?_); rintro e w6 ⟨rfl, rfl⟩)
                | (go_at_call 79; (with_reducible refine (H6.out _).mono ?_); rintro e w7 ⟨rfl, rfl⟩)
                | fail)
              go_ret
              exact ⟨ret_bool (by rw [HS.out]; rfl), bnext HB.out HB4.out⟩
            | true =>
              go_wp2_with (first
                | (go_at_call 54; (with_reducible refine H1.out.mono ?_); rintro e w2 ⟨rfl, rfl⟩)
                | (go_at_call 55; (with_reducible refine (H2.out _ HB0.out).mono ?_); rintro e w3 ⟨rfl, hb2⟩; have HB3 := Lib.hid (bnext HB0.out hb2); obtain ⟨d0, d1, d2, d3, d4, d5, d6, d7, d8, d9, d10, d11, d12⟩ := HX.out w3 HB3.out; clear hb2)
                | (go_at_call 77; (with_reducible refine (H3.out _).mono ?_); rintro e w4 ⟨rfl, hb2⟩; have HB4 := Lib.hid (bnext HB3.out hb2); obtain ⟨d0, d1, d2, d3, d4, d5, d6, d7, d8, d9, d10, d11, d12⟩ := HX.out w4 HB4.out; clear hb2)
                | (go_at_call_of 78 (Value.int .i64 ser); (with_reducible refine (H4.out _).mono ?_); rintro e w5 ⟨rfl, rfl⟩)
                | (go_at_call 78; (with_reducible refine (H5.out _).mono ?_); rintro e w6 ⟨rfl, rfl⟩)
                | (go_at_call 79; (with_reducible refine (H6.out _).mono ?_); rintro e w7 ⟨rfl, rfl⟩)
                | fail)
              go_ret
              exact ⟨ret_bool (by rw [HS.out]; rfl), bnext HB.out HB4.out⟩
end Go.Proofs.YthagdkipipldlaaGreatDoor.gra
