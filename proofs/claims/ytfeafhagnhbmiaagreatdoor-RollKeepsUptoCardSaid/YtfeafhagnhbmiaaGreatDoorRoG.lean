/- The reference's Right. No condition beyond what slices and texts are. -/
import Derived.Test.YtfeafhagnhbmiaaGreatDoorRo7
import Derived.Test.YtfeafhagnhbmiaaGreatDoorRo6
import Derived.Deep.DeepBigQuietO
namespace Go.Proofs.YtfeafhagnhbmiaaGreatDoor.rol
open Go.RowKit
open Go.Proofs.YtfeafhagnhbmiaaGreatDoor.oct Go.Proofs.YtfeafhagnhbmiaaGreatDoor.ref Go.Proofs.YtfeafhagnhbmiaaGreatDoor.rows Go.Proofs.YtfeafhagnhbmiaaGreatDoor.rowg
open Go.Proofs.YtfeafhagnhbmiaaGreatDoor.scp (tx senc senc_len InS ins_below ins_cell ins_take ins_new lt hasB hasB_iff Lst lval lenc GoodL FitS setP printP rhas_c RowA own_good fit_set setP_len rset_c rprint_c)

theorem right_no {c : CT} (h : prB c.id 64 = false ∨ secB c.pub c.sec = false ∨ redB c.red = false ∨ scoB c.sco = false ∨ graB c.pub c.gra = false) : rightB c = false := by
  unfold rightB
  rcases h with h | h | h | h | h <;> rw [h] <;> simp
theorem red_long {l : List T} (h : ¬ l.length ≤ 4) : redB l = false := by unfold redB; rw [decide_eq_false h]; rfl
theorem sco_long {l : List T} (h : ¬ l.length ≤ 32) : scoB l = false := by unfold scoB; rw [decide_eq_false h]; rfl
theorem gra_long {p : Bool} {l : List T} (h : ¬ l.length ≤ 3) : graB p l = false := by
  cases h2 : graB p l with
  | false => rfl
  | true => exact absurd (gra_len h2) h
theorem mayB_ref (pub : Bool) (g : T) : mayB pub g = (hasB [wAC, wCC, wRT] g && !(pub && decide (g = wCC))) := by
  have hn1 : wAC ≠ wCC := by decide
  have hn2 : wRT ≠ wCC := by decide
  unfold mayB
  by_cases h1 : g = wAC
  · subst h1
    rw [decide_eq_true rfl, decide_eq_false hn1, (hasB_iff _ _).2 (by simp)]; simp
  · by_cases h2 : g = wRT
    · subst h2
      rw [decide_eq_true (rfl : wRT = wRT), decide_eq_false hn2, (hasB_iff _ _).2 (by simp)]; simp
    · by_cases h3 : g = wCC
      · subst h3
        rw [decide_eq_true (rfl : wCC = wCC), (hasB_iff _ _).2 (by simp), decide_eq_false h1, decide_eq_false h2]; simp
      · have : hasB [wAC, wCC, wRT] g = false := by
          cases h4 : hasB [wAC, wCC, wRT] g with
          | false => rfl
          | true =>
            have := (hasB_iff _ _).1 h4
            simp only [List.mem_cons, List.not_mem_nil, or_false] at this
            rcases this with e | e | e
            · exact absurd e h1
            · exact absurd e h3
            · exact absurd e h2
        rw [this, decide_eq_false h1, decide_eq_false h2, decide_eq_false h3]; simp
set_option maxRecDepth 100000 in
set_option maxHeartbeats 4000000 in
theorem right_c (x : Cm) (w : World) (hg : GoodC w x) :
    Calls Tryz.prog 30 #[cval x] w fun e w' => e = .returned (.bool (rightB x.ct)) ∧ Below w.heap.size w w' := by
  obtain ⟨id, sec, pub, ⟨P3, C3, l3⟩, ⟨P4, C4, l4⟩, ⟨P5, C5, l5⟩⟩ := x
  show Calls _ _ #[.agg #[.string ⟨id.toArray⟩, .string ⟨sec.toArray⟩, .bool pub, .slice P3 l3.length C3, .slice P4 l4.length C4, .slice P5 l5.length C5]] w fun e w' => e = .returned (.bool (rightB ⟨id, sec, pub, l3, l4, l5⟩)) ∧ _
  obtain ⟨w1, hw1, hb1, hB, c0, c1, c2, c3, c4, c5⟩ := box_c w (.string ⟨id.toArray⟩) (.string ⟨sec.toArray⟩) (.bool pub) (.slice P3 l3.length C3) (.slice P4 l4.length C4) (.slice P5 l5.length C5) 27
  have HB := Lib.hid hb1
  have HBL := Lib.hid hB
  have HGD := Lib.hid (hg.below hb1)
  have hidl : id.length ≤ 140737488351232 := hg.id
  have hsel : sec.length ≤ 140737488351232 := hg.sec
  have HPI := Lib.hid (printed64 id (by omega) w1)
  have HPS := Lib.hid (printed128 sec (by omega) w1)
  obtain ⟨n3, hn3⟩ : ∃ n, l3.length = n := ⟨_, rfl⟩
  obtain ⟨n4, hn4⟩ : ∃ n, l4.length = n := ⟨_, rfl⟩
  obtain ⟨n5, hn5⟩ : ∃ n, l5.length = n := ⟨_, rfl⟩
  obtain ⟨rb, hrb⟩ : ∃ rb, rightB ⟨id, sec, pub, l3, l4, l5⟩ = rb := ⟨_, rfl⟩
  have HNO : Hid ((prB id 64 = false ∨ secB pub sec = false ∨ redB l3 = false ∨ scoB l4 = false ∨ graB pub l5 = false) → rb = false) := Lib.hid fun h => by rw [← hrb]; exact right_no h
  have HYES : Hid (prB id 64 = true → secB pub sec = true → redB l3 = true → graB pub l5 = true → rb = scoB l4) := Lib.hid fun h1 h2 h3 h4 => by rw [← hrb]; unfold rightB; rw [h1, h2, h3, h4]; simp
  rw [hn3, hn4, hn5] at hw1 HBL ⊢
  rw [hrb]
  rw [hn3] at c3
  rw [hn4] at c4
  rw [hn5] at c5
  have HN3 := Lib.hid hn3
  have HN4 := Lib.hid hn4
  have HN5 := Lib.hid hn5
  clear hb1 hB hg hn3 hn4 hn5 hrb hidl hsel
  go_enter Tryz.func30, Tryz.ntmps30
  cases h1 : prB id 64 with
  | false =>
    have HF := Lib.hid (HNO.out (Or.inl h1))
    rw [h1] at HPI
    clear h1
    go_wp2_with (go_at_call 51; (with_reducible refine HPI.out.mono ?_); rintro e w2 ⟨rfl, rfl⟩)
    go_ret
    exact ⟨ret_bool HF.out.symm, HB.out⟩
  | true =>
    rw [h1] at HPI
    have HP1 := Lib.hid h1
    clear h1
    by_cases h3 : n3 ≤ 4
    · by_cases h4 : n4 ≤ 32
      · by_cases h5 : n5 ≤ 3
        · have i3 : decide ((4 : Int) < (n3 : Int)) = false := decide_eq_false (by omega)
          have i4 : decide ((32 : Int) < (n4 : Int)) = false := decide_eq_false (by omega)
          have i5 : decide ((3 : Int) < (n5 : Int)) = false := decide_eq_false (by omega)
          go_upto_region 3 with (go_at_call 51; (with_reducible refine HPI.out.mono ?_); rintro e w2 ⟨rfl, rfl⟩)
          go_cut [44] from 28 to 44 (fun s44 wx => s44 = .bool (!(secB pub sec)) ∧ wx = w1)
          case first =>
            have hsec := secB_iff pub sec
            cases he : List.isEmpty sec with
            | true =>
              have e : sec = [] := List.isEmpty_iff.1 he
              have HS : Hid ((!secB pub sec) = !pub) := Lib.hid (by rw [e]; cases pub <;> rfl)
              clear e hsec
              cases pub with
              | true =>
                go_wp2_with fail
                go_meet
                exact ⟨by rw [HS.out]; rfl, rfl⟩
              | false =>
                go_wp2_with fail
                go_meet
                exact ⟨by rw [HS.out]; rfl, rfl⟩
            | false =>
              have e : sec ≠ [] := by intro e; rw [e] at he; cases he
              have HS : Hid ((!secB pub sec) = (pub || !prB sec 128)) := Lib.hid (by unfold secB; cases pub <;> simp [e])
              clear e hsec
              cases pub with
              | true =>
                go_wp2_with fail
                go_meet
                exact ⟨by rw [HS.out]; rfl, rfl⟩
              | false =>
                go_wp2_with (go_at_call 51; (with_reducible refine HPS.out.mono ?_); rintro e w2 ⟨rfl, rfl⟩)
                go_meet
                exact ⟨by rw [HS.out]; simp, rfl⟩
          case rest =>
            obtain ⟨rfl, rfl⟩ := hcut
            cases hs : secB pub sec with
            | false =>
              have HF := Lib.hid (HNO.out (Or.inr (Or.inl hs)))
              go_wp2_with fail
              go_ret
              exact ⟨ret_bool HF.out.symm, HB.out⟩
            | true =>
              have HS1 := Lib.hid hs
              have HC3 : n3 ≤ C3 := by have h : l3.length ≤ C3 := HGD.out.red.room; rw [HN3.out] at h; exact h
              have HR3 : Hid (InS wc P3 l3) := Lib.hid HGD.out.red.row
              have HFIT3 : Hid (FitS l3) := Lib.hid HGD.out.red.fit
              have HSB : Hid (Blk wc w.heap.size 27 [.string ⟨id.toArray⟩, .string ⟨sec.toArray⟩, .bool pub, .slice P3 n3 C3, .slice P4 n4 C4, .slice P5 n5 C5]) := HBL
              clear hs
              go_wp2_with fail
              clear hw1 c0 c1 c2 c4 c5 c3
              go_loopg [3] n3 (fun g s3 wx => ∃ k : Nat, k + g = n3 ∧ s3 = .int .i64 k ∧ Hid ((List.range k).all (redAt l3) = true) ∧ Hid (Below wc.heap.size wc wx))
              case atStart => exact ⟨0, by omega, rfl, rfl, Lib.hid (Below.refl _ _)⟩
              case round =>
                obtain ⟨k, hkg, rfl, HI, HW⟩ := hrel
                rcases gk with _ | g
                · obtain rfl : k = n3 := by omega
                  have HR : Hid (redB l3 = true) := Lib.hid (by
                    have h := HI.out
                    show (decide (l3.length ≤ 4) && (List.range l3.length).all (redAt l3)) = true
                    rw [HN3.out, decide_eq_true h3, h]; rfl)
                  have HR1 := Lib.hid (bnext HB.out HW.out)
                  obtain ⟨wA, hwA⟩ : ∃ wA, wr.alloc (.cells #[.string ⟨#[97, 117, 116, 104, 111, 114, 105, 122, 97, 116, 105, 111, 110, 95, 99, 111, 100, 101]⟩, .string ⟨#[99, 108, 105, 101, 110, 116, 95, 99, 114, 101, 100, 101, 110, 116, 105, 97, 108, 115]⟩, .string ⟨#[114, 101, 102, 114, 101, 115, 104, 95, 116, 111, 107, 101, 110]⟩] 9) = wA := ⟨_, rfl⟩
                  have hInA : InS wA (some ⟨wr.heap.size, 0, none⟩) [wAC, wCC, wRT] := by rw [← hwA]; exact ins_new wr [wAC, wCC, wRT] 9
                  have hbA : Below wr.heap.size wr wA := by rw [← hwA]; exact (Below.refl _ _).alloc (Nat.le_refl _) _
                  obtain ⟨GA, hGA⟩ : ∃ GA, wr.heap.size = GA := ⟨_, rfl⟩
                  rw [hGA] at hInA
                  have HINA := Lib.hid hInA
                  have HB2 := Lib.hid (bnext HR1.out hbA)
                  have HBX : Hid (Below wc.heap.size wc wA) := Lib.hid (bnext HW.out hbA)
                  have c3 : wr.cell? ⟨w.heap.size, 3, none⟩ = some (.slice P3 k C3) := (blk6 (HSB.out.below HW.out)).2.2.2.1
                  clear hInA hbA
                  go_wp2_with fail
                  clear hwA c3 hGA
                  go_loopg [5] n5 (fun g s5 wx => ∃ k : Nat, k + g = n5 ∧ s5 = .int .i64 k ∧ Hid ((List.range k).all (graAt pub l5) = true) ∧ Hid (Below wA.heap.size wA wx))
                  case atStart => exact ⟨0, by omega, rfl, rfl, Lib.hid (Below.refl _ _)⟩
                  case round =>
                    clear HI HW
                    obtain ⟨k, hkg, rfl, HI, HW2⟩ := hrel
                    rcases gk with _ | g2
                    · obtain rfl : k = n5 := by omega
                      have HR5 : Hid (graB pub l5 = true) := Lib.hid (by
                        have h := HI.out
                        show (List.range l5.length).all (graAt pub l5) = true
                        rw [HN5.out, h])
                      have hbw : Below wc.heap.size wc wr := bnext HBX.out HW2.out
                      have hgood : GoodL wr (P4, C4, l4) := (LL.below (x := (P4, C4, l4)) HGD.out.sco hbw).good (by show l4.length ≤ _; rw [HN4.out]; omega)
                      have HST : Hid (∀ W, Below wr.heap.size wr W → Calls Tryz.prog 54 #[.slice P4 l4.length C4] W fun e w' => ∃ p c, e = .returned (.slice p (setP l4).length c) ∧ GoodL w' (p, c, setP l4) ∧ Below W.heap.size W w') := Lib.hid fun W hW => (rset_c P4 C4 l4 W (hgood.below hW).row (hgood.few)).mono fun e w' ⟨v, h1, h2, h3⟩ => by
                        obtain ⟨p, c, rfl, h5⟩ := own_good h2 (fit_set l4) (by have := setP_len l4; have h6 : l4.length ≤ 4194304 := hgood.few; omega)
                        exact ⟨p, c, h1, h5, h3⟩
                      have HEQ : Hid (∀ W p c, Below wr.heap.size wr W → GoodL W (p, c, setP l4) → Calls Tryz.prog 32 #[.slice p (setP l4).length c, .slice P4 l4.length C4] W fun e w' => e = .returned (.bool (decide (setP l4 = l4))) ∧ Below W.heap.size W w') := Lib.hid fun W p c hW hs => tsame_l (x := (p, c, setP l4)) (y := (P4, C4, l4)) hs.row (hgood.below hW).row (by have := hs.few; omega) (by have h6 : l4.length ≤ 4194304 := hgood.few; show l4.length ≤ _; omega)
                      have HPT : Hid (∀ W, Below wr.heap.size wr W → Calls Tryz.prog 55 #[.slice P4 l4.length C4] W fun e w' => e = .returned (.string ⟨(printP l4).toArray⟩) ∧ Below W.heap.size W w') := Lib.hid fun W hW => rprint_c P4 C4 l4 W (hgood.below hW).row hgood.few
                      have HS : Hid (rb = (decide (setP l4 = l4) && decide ((printP l4).length ≤ 128))) := Lib.hid (by
                        rw [HYES.out HP1.out HS1.out HR.out HR5.out]
                        unfold scoB
                        rw [HN4.out, decide_eq_true h4, Bool.true_and])
                      have HC : Hid (∀ W, Below wr.heap.size wr W → W.cell? ⟨w.heap.size, 4, none⟩ = some (.slice P4 n4 C4)) := Lib.hid fun W hW => (blk6 ((HSB.out.below hbw).below hW)).2.2.2.2.1
                      have c4 := HC.out wr (Below.refl _ _)
                      have c5 : wr.cell? ⟨w.heap.size, 5, none⟩ = some (.slice P5 k C5) := (blk6 (HSB.out.below hbw)).2.2.2.2.2
                      have HB0 : Hid (Below wr.heap.size wr wr) := Lib.hid (Below.refl _ _)
                      obtain ⟨pt, hpt⟩ : ∃ pt, printP l4 = pt := ⟨_, rfl⟩
                      obtain ⟨ms, hms⟩ : ∃ ms, (setP l4).length = ms := ⟨_, rfl⟩
                      obtain ⟨eq, heq⟩ : ∃ eq, decide (setP l4 = l4) = eq := ⟨_, rfl⟩
                      rw [hpt, heq] at HS
                      rw [hpt, HN4.out] at HPT
                      rw [heq, hms, HN4.out] at HEQ
                      rw [hms, HN4.out] at HST
                      clear hbw hgood hpt hms heq
                      go_upto_region 16 with fail
                      clear c5
                      cases eq with
                      | false =>
                        first
                        | go_region_with (first
                          | (go_at_call 54; (with_reducible refine (HST.out _ ?_).mono ?_); exact HB0.out.drew; rintro e w2 ⟨p, c, rfl, hg2, hb2⟩; have HBA := Lib.hid (HB0.out.drew.trans (hb2.mono HB0.out.size)); have HG2 := Lib.hid hg2; have d2 := HC.out w2 HBA.out; clear hb2 hg2)
                          | (go_at_call 32; (with_reducible refine (HEQ.out _ _ _ HBA.out HG2.out).mono ?_); rintro e w3 ⟨rfl, hb3⟩; have HBC := Lib.hid (bnext HBA.out hb3); clear hb3))
                        | fail
                        all_goals
                          go_wp2_with fail
                          go_ret
                          exact ⟨ret_bool (by rw [HS.out]; rfl), bnext (bnext HB2.out HW2.out) HBC.out⟩
                      | true =>
                        obtain ⟨np, hnp⟩ : ∃ np, pt.length = np := ⟨_, rfl⟩
                        rw [hnp] at HS
                        have hsz : (⟨pt.toArray⟩ : ByteArray).size = np := by rw [size_mk]; exact hnp
                        clear hnp
                        first
                        | go_region_with (first
                          | (go_at_call 54; (with_reducible refine (HST.out _ ?_).mono ?_); exact HB0.out.drew; rintro e w2 ⟨p, c, rfl, hg2, hb2⟩; have HBA := Lib.hid (HB0.out.drew.trans (hb2.mono HB0.out.size)); have HG2 := Lib.hid hg2; have d2 := HC.out w2 HBA.out; clear hb2 hg2)
                          | (go_at_call 32; (with_reducible refine (HEQ.out _ _ _ HBA.out HG2.out).mono ?_); rintro e w3 ⟨rfl, hb3⟩; have HBC := Lib.hid (bnext HBA.out hb3); have d3 := HC.out w3 HBC.out; clear hb3)
                          | (go_at_call 55; (with_reducible refine (HPT.out _ HBC.out).mono ?_); rintro e w4 ⟨rfl, hb4⟩; have HBD := Lib.hid (bnext HBC.out hb4); clear hb4))
                        | fail
                        all_goals
                          go_wp2_with fail
                          go_ret
                          exact ⟨ret_bool (by rw [HS.out]; simp; omega), bnext (bnext HB2.out HW2.out) HBD.out⟩
                    · have hk : k < l5.length := by rw [HN5.out]; omega
                      have hkI : (k : Int) < (n5 : Int) := by omega
                      have HR5 : Hid (InS wr P5 l5) := Lib.hid (ins_below (ins_below HGD.out.gra.row HBX.out) HW2.out)
                      obtain ⟨b, o, hP, d0⟩ := ins_cell HR5.out k hk
                      have HSP := Lib.hid (gra_step hk HI.out)
                      have HMR := Lib.hid (mayB_ref pub l5[k])
                      have CH : Hid (∀ y : After wr, Calls Tryz.prog 53 #[.slice (some ⟨GA, 0, none⟩) 3 3, .string ⟨(l5[k]).toArray⟩] y.v fun e w'' => e = .returned (.bool (hasB [wAC, wCC, wRT] l5[k])) ∧ ∃ z : After wr, w'' = z.v) := Lib.hid fun y => after_same y (rhas_c _ 3 [wAC, wCC, wRT] l5[k] y.v (ins_below (ins_below HINA.out HW2.out) y.below) (by decide))
                      have e5 : ∀ y : After wr, y.v.cell? ⟨w.heap.size, 5, none⟩ = some (.slice P5 n5 C5) := fun y => (blk6 (((HSB.out.below HBX.out).below HW2.out).below y.below)).2.2.2.2.2
                      have e2 : ∀ y : After wr, y.v.cell? ⟨w.heap.size, 2, none⟩ = some (.bool pub) := fun y => (blk6 (((HSB.out.below HBX.out).below HW2.out).below y.below)).2.2.1
                      have k5 := e5 ⟨wr, Below.refl _ _⟩
                      dsimp only at k5
                      have e0 : ∀ y : After wr, y.v.cell? ⟨b, o + k, none⟩ = some (.string ⟨(l5[k]).toArray⟩) := fun y => (y.below.cell (p := ⟨b, o + k, none⟩) (cell_lt d0)).trans d0
                      have ea : ∀ y : After wr, y.v.cell? ⟨GA, 1, none⟩ = some (.string ⟨#[99, 108, 105, 101, 110, 116, 95, 99, 114, 101, 100, 101, 110, 116, 105, 97, 108, 115]⟩) := fun y => by
                        obtain ⟨bq, oq, hq1, hq2⟩ := ins_cell (ins_below (ins_below HINA.out HW2.out) y.below) 1 (by decide)
                        injection hq1 with hq1
                        injection hq1 with hq3 hq4
                        rw [← hq4, Nat.zero_add, ← hq3] at hq2
                        exact hq2
                      obtain ⟨x0, hx0⟩ : ∃ x0, l5[k] = x0 := ⟨_, rfl⟩
                      rw [hx0] at HSP CH e0 HMR
                      subst hP
                      clear hx0 d0
                      cases hh : hasB [wAC, wCC, wRT] x0 with
                      | false =>
                        have hmy : mayB pub x0 = false := by rw [HMR.out, hh]; rfl
                        have HF := Lib.hid (HNO.out (Or.inr (Or.inr (Or.inr (Or.inr (HSP.out.1 hmy))))))
                        rw [hh] at CH
                        clear hmy hh HSP HMR
                        go_upto_region 14 with fail
                        clear k5
                        refine wp_region_after (by kernel_rfl) (by kernel_rfl) ?_
                        repeat (go_big_quiet_step (first
                          | (rename_i y; go_at_call 53; with_reducible exact CH.out y)))
                        refine wpQuiet_nil ?_
                        rintro ⟨wq, hq⟩
                        dsimp only
                        have HQ := Lib.hid (bnext HW2.out hq)
                        clear hq e5 e0 e2 ea
                        go_wp2_with fail
                        go_ret
                        exact ⟨ret_bool HF.out.symm, bnext HB2.out HQ.out⟩
                      | true =>
                        rw [hh] at CH
                        by_cases h0 : k = 0
                        · have hz : decide (0 < k) = false := decide_eq_false (by omega)
                          have hzI : decide ((0 : Int) < (k : Int)) = false := decide_eq_false (by omega)
                          have HSP2 := Lib.hid (HSP.out.2.1 h0)
                          clear h0
                          cases pub with
                          | false =>
                            have hmy : mayB false x0 = true := by rw [HMR.out, hh]; rfl
                            have HF := Lib.hid (HSP2.out hmy)
                            clear hmy hh HMR HSP
                            go_upto_region 14 with fail
                            clear k5
                            refine wp_region_after (by kernel_rfl) (by kernel_rfl) ?_
                            repeat (go_big_quiet_step (first
                              | (rename_i y; go_at_call 53; with_reducible exact CH.out y)))
                            refine wpQuiet_nil ?_
                            rintro ⟨wq, hq⟩
                            dsimp only
                            have HQ := Lib.hid (bnext HW2.out hq)
                            clear hq e5 e0 e2 ea
                            go_wp2_with fail
                            go_roundg g2
                            case measure => omega
                            case rel => exact ⟨k + 1, by omega, by go_num, HF, HQ⟩
                          | true =>
                            by_cases hcc : x0 = wCC
                            · have hmy : mayB true x0 = false := by rw [HMR.out, hh, decide_eq_true hcc]; rfl
                              have HF := Lib.hid (HNO.out (Or.inr (Or.inr (Or.inr (Or.inr (HSP.out.1 hmy))))))
                              have bcc : (x0 == wCC) = true := by simpa using hcc
                              unfold wCC at bcc
                              clear hmy hh HMR HSP hcc
                              go_upto_region 14 with fail
                              clear k5
                              refine wp_region_after (by kernel_rfl) (by kernel_rfl) ?_
                              repeat (go_big_quiet_step (first
                                | (rename_i y; go_at_call 53; with_reducible exact CH.out y)))
                              refine wpQuiet_nil ?_
                              rintro ⟨wq, hq⟩
                              dsimp only
                              have HQ := Lib.hid (bnext HW2.out hq)
                              clear hq e5 e0 e2 ea
                              go_wp2_with fail
                              go_ret
                              exact ⟨ret_bool HF.out.symm, bnext HB2.out HQ.out⟩
                            · have hmy : mayB true x0 = true := by rw [HMR.out, hh, decide_eq_false hcc]; rfl
                              have HF := Lib.hid (HSP2.out hmy)
                              have bcc : (x0 == wCC) = false := by simpa using hcc
                              unfold wCC at bcc
                              clear hmy hh HMR HSP hcc
                              go_upto_region 14 with fail
                              clear k5
                              refine wp_region_after (by kernel_rfl) (by kernel_rfl) ?_
                              repeat (go_big_quiet_step (first
                                | (rename_i y; go_at_call 53; with_reducible exact CH.out y)))
                              refine wpQuiet_nil ?_
                              rintro ⟨wq, hq⟩
                              dsimp only
                              have HQ := Lib.hid (bnext HW2.out hq)
                              clear hq e5 e0 e2 ea
                              go_wp2_with fail
                              go_roundg g2
                              case measure => omega
                              case rel => exact ⟨k + 1, by omega, by go_num, HF, HQ⟩
                        · obtain ⟨j, hj⟩ : ∃ j, k = j + 1 := ⟨k - 1, by omega⟩
                          have hj2 : j < l5.length := by omega
                          obtain ⟨b2, o2, hP2, d1⟩ := ins_cell HR5.out j hj2
                          injection hP2 with hP2
                          injection hP2 with q1 q2
                          subst q1
                          subst q2
                          have H2 := HSP.out.2.2 (by omega)
                          have hkj : k - 1 = j := by omega
                          rw [show l5[k - 1]'(by omega) = l5[j] from by congr 1] at H2
                          have e9 : ∀ y : After wr, y.v.cell? ⟨b, o + j, none⟩ = some (.string ⟨(l5[j]).toArray⟩) := fun y => (y.below.cell (p := ⟨b, o + j, none⟩) (cell_lt d1)).trans d1
                          obtain ⟨y0, hy0⟩ : ∃ y0, l5[j] = y0 := ⟨_, rfl⟩
                          rw [hy0] at e9 H2
                          have HS2 := Lib.hid H2
                          have hz : decide (0 < k) = true := decide_eq_true (by omega)
                          have hzI : decide ((0 : Int) < (k : Int)) = true := decide_eq_true (by omega)
                          have hk1 : (k : Int) - 1 = (j : Int) := by omega
                          have hjI : (j : Int) < (n5 : Int) := by omega
                          clear H2 hy0 d1 hkj h0 hj
                          cases hl : lt y0 x0 with
                          | false =>
                            have HF := Lib.hid (HNO.out (Or.inr (Or.inr (Or.inr (Or.inr (HS2.out.2 hl))))))
                            have hlb : Go.Op.bytesLess y0 x0 = false := hl
                            clear hl HSP HMR hh
                            go_upto_region 14 with fail
                            clear k5
                            refine wp_region_after (by kernel_rfl) (by kernel_rfl) ?_
                            repeat (go_big_quiet_step (first
                              | (rename_i y; go_at_call 53; with_reducible exact CH.out y)))
                            refine wpQuiet_nil ?_
                            rintro ⟨wq, hq⟩
                            dsimp only
                            have HQ := Lib.hid (bnext HW2.out hq)
                            clear hq e5 e0 e2 ea e9
                            go_wp2_with fail
                            go_ret
                            exact ⟨ret_bool HF.out.symm, bnext HB2.out HQ.out⟩
                          | true =>
                            have hlb : Go.Op.bytesLess y0 x0 = true := hl
                            clear hlb
                            have hlb2 : Go.Op.bytesLess y0 x0 = true := hl
                            cases pub with
                            | false =>
                              have hmy : mayB false x0 = true := by rw [HMR.out, hh]; rfl
                              have HF := Lib.hid (HS2.out.1 hmy hl)
                              clear hmy hh HMR HSP
                              go_upto_region 14 with fail
                              clear k5
                              refine wp_region_after (by kernel_rfl) (by kernel_rfl) ?_
                              repeat (go_big_quiet_step (first
                                | (rename_i y; go_at_call 53; with_reducible exact CH.out y)))
                              refine wpQuiet_nil ?_
                              rintro ⟨wq, hq⟩
                              dsimp only
                              have HQ := Lib.hid (bnext HW2.out hq)
                              clear hq e5 e0 e2 ea e9
                              go_wp2_with fail
                              go_roundg g2
                              case measure => omega
                              case rel => exact ⟨k + 1, by omega, by go_num, HF, HQ⟩
                            | true =>
                              by_cases hcc : x0 = wCC
                              · have hmy : mayB true x0 = false := by rw [HMR.out, hh, decide_eq_true hcc]; rfl
                                have HF := Lib.hid (HNO.out (Or.inr (Or.inr (Or.inr (Or.inr (HSP.out.1 hmy))))))
                                have bcc : (x0 == wCC) = true := by simpa using hcc
                                unfold wCC at bcc
                                clear hmy hh HMR HSP hcc
                                go_upto_region 14 with fail
                                clear k5
                                refine wp_region_after (by kernel_rfl) (by kernel_rfl) ?_
                                repeat (go_big_quiet_step (first
                                  | (rename_i y; go_at_call 53; with_reducible exact CH.out y)))
                                refine wpQuiet_nil ?_
                                rintro ⟨wq, hq⟩
                                dsimp only
                                have HQ := Lib.hid (bnext HW2.out hq)
                                clear hq e5 e0 e2 ea e9
                                go_wp2_with fail
                                go_ret
                                exact ⟨ret_bool HF.out.symm, bnext HB2.out HQ.out⟩
                              · have hmy : mayB true x0 = true := by rw [HMR.out, hh, decide_eq_false hcc]; rfl
                                have HF := Lib.hid (HS2.out.1 hmy hl)
                                have bcc : (x0 == wCC) = false := by simpa using hcc
                                unfold wCC at bcc
                                clear hmy hh HMR HSP hcc
                                go_upto_region 14 with fail
                                clear k5
                                refine wp_region_after (by kernel_rfl) (by kernel_rfl) ?_
                                repeat (go_big_quiet_step (first
                                  | (rename_i y; go_at_call 53; with_reducible exact CH.out y)))
                                refine wpQuiet_nil ?_
                                rintro ⟨wq, hq⟩
                                dsimp only
                                have HQ := Lib.hid (bnext HW2.out hq)
                                clear hq e5 e0 e2 ea e9
                                go_wp2_with fail
                                go_roundg g2
                                case measure => omega
                                case rel => exact ⟨k + 1, by omega, by go_num, HF, HQ⟩
                · have hk : k < l3.length := by rw [HN3.out]; omega
                  have hkI : (k : Int) < (n3 : Int) := by omega
                  have hkc : k ≤ C3 := by omega
                  obtain ⟨b, o, hP, d0⟩ := ins_cell (ins_below HR3.out HW.out) k hk
                  have HSP := Lib.hid (red_step hk HI.out)
                  have hfx := HFIT3.out _ (List.getElem_mem hk)
                  have CP := Lib.hid (fun y : After wr => after_same y (printed128 l3[k] (by omega) y.v))
                  have CS := Lib.hid (fun y : After wr => after_same y (sharp_c l3[k] (by omega) y.v))
                  have htk : (l3.take k).length = k := by rw [List.length_take]; omega
                  have CH := Lib.hid (fun y : After wr => after_same y (by have h := rhas_c P3 C3 (l3.take k) l3[k] y.v (ins_take (ins_below (ins_below HR3.out HW.out) y.below) k (by omega)) (by omega); rw [htk] at h; exact h))
                  have e3 : ∀ y : After wr, y.v.cell? ⟨w.heap.size, 3, none⟩ = some (.slice P3 n3 C3) := fun y => (blk6 ((HSB.out.below HW.out).below y.below)).2.2.2.1
                  have c3 := e3 ⟨wr, Below.refl _ _⟩
                  dsimp only at c3
                  have e0 : ∀ y : After wr, y.v.cell? ⟨b, o + k, none⟩ = some (.string ⟨(l3[k]).toArray⟩) := fun y => (y.below.cell (p := ⟨b, o + k, none⟩) (cell_lt d0)).trans d0
                  obtain ⟨x0, hx0⟩ : ∃ x0, l3[k] = x0 := ⟨_, rfl⟩
                  obtain ⟨m0, hm0⟩ : ∃ m0, hasB (l3.take k) x0 = m0 := ⟨_, rfl⟩
                  rw [hx0] at HSP CP CS CH e0
                  rw [hm0] at HSP CH
                  subst hP
                  clear hx0 hm0 hk htk hfx d0
                  unfold tx at CH
                  cases hp : prB x0 128 with
                  | false =>
                    have HF := Lib.hid (HNO.out (Or.inr (Or.inr (Or.inl (HSP.out.1 hp)))))
                    rw [hp] at CP
                    clear hp HSP
                    go_upto_region 8 with fail
                    clear c3
                    refine wp_region_after (by kernel_rfl) (by kernel_rfl) ?_
                    repeat (go_big_quiet_step (first
                      | (rename_i y; go_at_call 51; with_reducible exact CP.out y)))
                    refine wpQuiet_nil ?_
                    rintro ⟨wq, hq⟩
                    dsimp only
                    have HQ := Lib.hid (bnext HW.out hq)
                    clear hq e3 e0
                    go_wp2_with fail
                    go_ret
                    exact ⟨ret_bool HF.out.symm, bnext HB.out HQ.out⟩
                  | true =>
                    rw [hp] at CP
                    cases hs : shB x0 with
                    | true =>
                      have HF := Lib.hid (HNO.out (Or.inr (Or.inr (Or.inl (HSP.out.2.1 hs)))))
                      rw [hs] at CS
                      clear hp hs HSP
                      go_upto_region 8 with fail
                      clear c3
                      refine wp_region_after (by kernel_rfl) (by kernel_rfl) ?_
                      repeat (go_big_quiet_step (first
                        | (rename_i y; go_at_call 51; with_reducible exact CP.out y)
                        | (rename_i y; go_at_call 52; with_reducible exact CS.out y)))
                      refine wpQuiet_nil ?_
                      rintro ⟨wq, hq⟩
                      dsimp only
                      have HQ := Lib.hid (bnext HW.out hq)
                      clear hq e3 e0
                      go_wp2_with fail
                      go_ret
                      exact ⟨ret_bool HF.out.symm, bnext HB.out HQ.out⟩
                    | false =>
                      rw [hs] at CS
                      cases m0 with
                      | true =>
                        have HF := Lib.hid (HNO.out (Or.inr (Or.inr (Or.inl (HSP.out.2.2.1 rfl)))))
                        clear hp hs HSP
                        go_upto_region 8 with fail
                        clear c3
                        refine wp_region_after (by kernel_rfl) (by kernel_rfl) ?_
                        repeat (go_big_quiet_step (first
                          | (rename_i y; go_at_call 51; with_reducible exact CP.out y)
                          | (rename_i y; go_at_call 52; with_reducible exact CS.out y)
                          | (rename_i y; go_at_call 53; with_reducible exact CH.out y)))
                        refine wpQuiet_nil ?_
                        rintro ⟨wq, hq⟩
                        dsimp only
                        have HQ := Lib.hid (bnext HW.out hq)
                        clear hq e3 e0
                        go_wp2_with fail
                        go_ret
                        exact ⟨ret_bool HF.out.symm, bnext HB.out HQ.out⟩
                      | false =>
                        have HF := Lib.hid (HSP.out.2.2.2 hp hs rfl)
                        clear hp hs HSP
                        go_upto_region 8 with fail
                        clear c3
                        refine wp_region_after (by kernel_rfl) (by kernel_rfl) ?_
                        repeat (go_big_quiet_step (first
                          | (rename_i y; go_at_call 51; with_reducible exact CP.out y)
                          | (rename_i y; go_at_call 52; with_reducible exact CS.out y)
                          | (rename_i y; go_at_call 53; with_reducible exact CH.out y)))
                        refine wpQuiet_nil ?_
                        rintro ⟨wq, hq⟩
                        dsimp only
                        have HQ := Lib.hid (bnext HW.out hq)
                        clear hq e3 e0
                        go_wp2_with fail
                        go_roundg g
                        case measure => omega
                        case rel => exact ⟨k + 1, by omega, by go_num, HF, HQ⟩
        · have HF := Lib.hid (HNO.out (Or.inr (Or.inr (Or.inr (Or.inr (gra_long (by rw [HN5.out]; exact h5)))))))
          have i3 : decide ((4 : Int) < (n3 : Int)) = false := decide_eq_false (by omega)
          have i4 : decide ((32 : Int) < (n4 : Int)) = false := decide_eq_false (by omega)
          have i5 : decide ((3 : Int) < (n5 : Int)) = true := decide_eq_true (by omega)
          go_wp2_with (go_at_call 51; (with_reducible refine HPI.out.mono ?_); rintro e w2 ⟨rfl, rfl⟩)
          go_ret
          exact ⟨ret_bool HF.out.symm, HB.out⟩
      · have HF := Lib.hid (HNO.out (Or.inr (Or.inr (Or.inr (Or.inl (sco_long (by rw [HN4.out]; exact h4)))))))
        have i3 : decide ((4 : Int) < (n3 : Int)) = false := decide_eq_false (by omega)
        have i4 : decide ((32 : Int) < (n4 : Int)) = true := decide_eq_true (by omega)
        go_wp2_with (go_at_call 51; (with_reducible refine HPI.out.mono ?_); rintro e w2 ⟨rfl, rfl⟩)
        go_ret
        exact ⟨ret_bool HF.out.symm, HB.out⟩
    · have HF := Lib.hid (HNO.out (Or.inr (Or.inr (Or.inl (red_long (by rw [HN3.out]; exact h3))))))
      have i3 : decide ((4 : Int) < (n3 : Int)) = true := decide_eq_true (by omega)
      go_wp2_with (go_at_call 51; (with_reducible refine HPI.out.mono ?_); rintro e w2 ⟨rfl, rfl⟩)
      go_ret
      exact ⟨ret_bool HF.out.symm, HB.out⟩
end Go.Proofs.YtfeafhagnhbmiaaGreatDoor.rol
