/- The developers' scopesMayBe. No condition beyond what slices and texts are. -/
import Derived.Test.YtfeafhagnhbmiaaGreatDoorRo6
import Derived.Test.YtfeafhagnhbmiaaGreatDoorRo7
import Derived.Test.YtfeafhagnhbmiaaGreatDoorGscq
namespace Go.Proofs.YtfeafhagnhbmiaaGreatDoor.rol
open Go.RowKit
open Go.Proofs.YtfeafhagnhbmiaaGreatDoor.oct Go.Proofs.YtfeafhagnhbmiaaGreatDoor.ref Go.Proofs.YtfeafhagnhbmiaaGreatDoor.rows Go.Proofs.YtfeafhagnhbmiaaGreatDoor.rowg
open Go.Proofs.YtfeafhagnhbmiaaGreatDoor.scp (tx senc senc_len InS ins_below ins_cell ins_take lt hasB hasB_iff Lst lval lenc GoodL FitS setP printP RowA own_good fit_set setP_len set_c print_c)

theorem sequal_b {w : World} {x y : Lst} (hx : GoodL w x) (hy : GoodL w y) : Calls Tryz.prog 80 #[lval x, lval y] w fun e w' => e = .returned (.bool (decide (x.2.2 = y.2.2))) ∧ Below w.heap.size w w' :=
  (sequal_c x.1 x.2.1 x.2.2 y.1 y.2.1 y.2.2 w hx.row hy.row (by have := hx.few; omega) (by have := hy.few; omega)).mono fun _ _ ⟨h1, n, h2⟩ => ⟨h1, by subst h2; exact below_drewN (Below.refl _ _) n⟩
set_option maxRecDepth 100000 in
set_option maxHeartbeats 8000000 in
theorem scopesMayBe_c (x : Cm) (w : World) (hg : LL w x.sco) :
    Calls Tryz.prog 59 #[cval x] w fun e w' => e = .returned (.bool (scoB x.sco.2.2)) ∧ Below w.heap.size w w' := by
  obtain ⟨id, sec, pub, ⟨P3, C3, l3⟩, ⟨P4, C4, l4⟩, ⟨P5, C5, l5⟩⟩ := x
  show Calls _ _ #[.agg #[.string ⟨id.toArray⟩, .string ⟨sec.toArray⟩, .bool pub, .slice P3 l3.length C3, .slice P4 l4.length C4, .slice P5 l5.length C5]] w fun e w' => e = .returned (.bool (scoB l4)) ∧ _
  obtain ⟨w1, hw1, hb1, hB, c0, c1, c2, c3, c4, c5⟩ := box_c w (.string ⟨id.toArray⟩) (.string ⟨sec.toArray⟩) (.bool pub) (.slice P3 l3.length C3) (.slice P4 l4.length C4) (.slice P5 l5.length C5) 49
  have HB := Lib.hid hb1
  by_cases h4 : l4.length ≤ 32
  · have hgood : GoodL w1 (P4, C4, l4) := (LL.below (x := (P4, C4, l4)) hg hb1).good (by show l4.length ≤ _; omega)
    have HST : Hid (∀ W, Below w1.heap.size w1 W → Calls Tryz.prog 25 #[.slice P4 l4.length C4] W fun e w' => ∃ p c, e = .returned (.slice p (setP l4).length c) ∧ GoodL w' (p, c, setP l4) ∧ Below W.heap.size W w') := Lib.hid fun W hW => (set_c (P4, C4, l4) W (hgood.below hW)).mono fun e w' ⟨v, h1, h2, h3⟩ => by
      obtain ⟨p, c, rfl, h5⟩ := own_good h2 (fit_set l4) (by have := setP_len l4; show (setP l4).length ≤ _; omega)
      exact ⟨p, c, h1, h5, h3⟩
    have HEQ : Hid (∀ W p c, Below w1.heap.size w1 W → GoodL W (p, c, setP l4) → Calls Tryz.prog 80 #[.slice P4 l4.length C4, .slice p (setP l4).length c] W fun e w' => e = .returned (.bool (decide (l4 = setP l4))) ∧ Below W.heap.size W w') := Lib.hid fun W p c hW hs => sequal_b (x := (P4, C4, l4)) (y := (p, c, setP l4)) (hgood.below hW) hs
    have HPT : Hid (∀ W, Below w1.heap.size w1 W → Calls Tryz.prog 81 #[.slice P4 l4.length C4] W fun e w' => e = .returned (.string ⟨(printP l4).toArray⟩) ∧ Below W.heap.size W w') := Lib.hid fun W hW => print_c (P4, C4, l4) W (hgood.below hW)
    have HS : Hid (scoB l4 = (decide (l4 = setP l4) && decide ((printP l4).length ≤ 128))) := by
      show _ = _
      unfold scoB
      rw [decide_eq_true h4, Bool.true_and]
      congr 1
      simp only [decide_eq_decide]
      exact eq_comm
    obtain ⟨n, hn⟩ : ∃ n, l4.length = n := ⟨_, rfl⟩
    obtain ⟨n3, hn3⟩ : ∃ n, l3.length = n := ⟨_, rfl⟩
    obtain ⟨n5, hn5⟩ : ∃ n, l5.length = n := ⟨_, rfl⟩
    obtain ⟨pt, hpt⟩ : ∃ pt, printP l4 = pt := ⟨_, rfl⟩
    obtain ⟨ms, hms⟩ : ∃ ms, (setP l4).length = ms := ⟨_, rfl⟩
    obtain ⟨eq, heq⟩ : ∃ eq, decide (l4 = setP l4) = eq := ⟨_, rfl⟩
    rw [hpt, heq] at HS
    rw [hpt, hn] at HPT
    rw [heq, hms, hn] at HEQ
    rw [hms, hn] at HST
    rw [hn] at h4 c4 hw1 ⊢
    rw [hn3, hn5] at hw1 ⊢
    have i4 : decide ((32 : Int) < (n : Int)) = false := decide_eq_false (by omega)
    have HC : Hid (∀ W, Below w1.heap.size w1 W → W.cell? ⟨w.heap.size, 4, none⟩ = some (.slice P4 n C4)) := Lib.hid fun W hW => (hW.cell (p := ⟨w.heap.size, 4, none⟩) (cell_lt c4)).trans c4
    have HB0 : Hid (Below w1.heap.size w1 w1) := Lib.hid (Below.refl _ _)
    clear hb1 hB hg hgood hn hn3 hn5 hpt hms heq c0 c1 c2 c3 c5
    go_enter Tryz.func59, Tryz.ntmps59
    cases eq with
    | false =>
      go_wp2_with fail
      first
      | go_region_with (first
        | (go_at_call 25; (with_reducible refine (HST.out _ ?_).mono ?_); exact HB0.out.drew; rintro e w2 ⟨p, c, rfl, hg2, hb2⟩; have HB2 := Lib.hid (HB0.out.drew.trans (hb2.mono HB0.out.size)); have HG2 := Lib.hid hg2; have d2 := HC.out w2 HB2.out; clear hb2 hg2)
        | (go_at_call 80; (with_reducible refine (HEQ.out _ _ _ HB2.out HG2.out).mono ?_); rintro e w3 ⟨rfl, hb3⟩; have HB3 := Lib.hid (bnext HB2.out hb3); clear hb3))
      | fail
      all_goals
        go_wp2_with fail
        go_ret
        exact ⟨ret_bool (by rw [HS.out]; rfl), bnext HB.out HB3.out⟩
    | true =>
      obtain ⟨np, hnp⟩ : ∃ np, pt.length = np := ⟨_, rfl⟩
      rw [hnp] at HS
      have hsz : (⟨pt.toArray⟩ : ByteArray).size = np := by rw [size_mk]; exact hnp
      clear hnp
      go_wp2_with fail
      first
      | go_region_with (first
        | (go_at_call 25; (with_reducible refine (HST.out _ ?_).mono ?_); exact HB0.out.drew; rintro e w2 ⟨p, c, rfl, hg2, hb2⟩; have HB2 := Lib.hid (HB0.out.drew.trans (hb2.mono HB0.out.size)); have HG2 := Lib.hid hg2; have d2 := HC.out w2 HB2.out; clear hb2 hg2)
        | (go_at_call 80; (with_reducible refine (HEQ.out _ _ _ HB2.out HG2.out).mono ?_); rintro e w3 ⟨rfl, hb3⟩; have HB3 := Lib.hid (bnext HB2.out hb3); have d3 := HC.out w3 HB3.out; clear hb3)
        | (go_at_call 81; (with_reducible refine (HPT.out _ HB3.out).mono ?_); rintro e w4 ⟨rfl, hb4⟩; have HB4 := Lib.hid (bnext HB3.out hb4); clear hb4))
      | fail
      all_goals
        go_wp2_with fail
        go_ret
        exact ⟨ret_bool (by rw [HS.out]; simp; omega), bnext HB.out HB4.out⟩
  · have HF : Hid (scoB l4 = false) := by show _ = _; unfold scoB; rw [decide_eq_false h4]; rfl
    obtain ⟨n, hn⟩ : ∃ n, l4.length = n := ⟨_, rfl⟩
    rw [hn] at h4 c4 hw1 ⊢
    have i4 : decide ((32 : Int) < (n : Int)) = true := decide_eq_true (by omega)
    clear hb1 hB hg hn c0 c1 c2 c3 c5
    go_enter Tryz.func59, Tryz.ntmps59
    go_wp2_with fail
    go_ret
    exact ⟨ret_bool HF.out.symm, HB.out⟩
end Go.Proofs.YtfeafhagnhbmiaaGreatDoor.rol
