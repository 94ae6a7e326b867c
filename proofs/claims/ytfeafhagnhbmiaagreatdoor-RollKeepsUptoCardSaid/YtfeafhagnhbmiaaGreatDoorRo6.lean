/- The developers' grantsMayBe. No condition beyond what slices and texts are. -/
import Derived.Test.YtfeafhagnhbmiaaGreatDoorRo5
namespace Go.Proofs.YtfeafhagnhbmiaaGreatDoor.rol
open Go.RowKit
open Go.Proofs.YtfeafhagnhbmiaaGreatDoor.oct Go.Proofs.YtfeafhagnhbmiaaGreatDoor.ref Go.Proofs.YtfeafhagnhbmiaaGreatDoor.rows Go.Proofs.YtfeafhagnhbmiaaGreatDoor.rowg
open Go.Proofs.YtfeafhagnhbmiaaGreatDoor.scp (tx senc senc_len InS ins_below ins_cell lt hasB hasB_iff Lst lval lenc GoodL FitS)

theorem gra_step {pub : Bool} {l : List T} {k : Nat} (hk : k < l.length) (h : (List.range k).all (graAt pub l) = true) : (mayB pub l[k] = false → graB pub l = false) ∧ (k = 0 → mayB pub l[k] = true → (List.range (k + 1)).all (graAt pub l) = true) ∧ (∀ h0 : 0 < k, (mayB pub l[k] = true → lt (l[k - 1]'(by omega)) l[k] = true → (List.range (k + 1)).all (graAt pub l) = true) ∧ (lt (l[k - 1]'(by omega)) l[k] = false → graB pub l = false)) := by
  have e1 : graAt pub l k = (mayB pub l[k] && (decide (k = 0) || lt (l.getD (k - 1) []) l[k])) := by unfold graAt; rw [getD_at l [] hk]
  refine ⟨fun h1 => range_all_no hk (by rw [e1, h1]; rfl), fun h0 h1 => range_all_step h (by rw [e1, h1, decide_eq_true h0]; rfl), fun h0 => ?_⟩
  have e2 : l.getD (k - 1) [] = l[k - 1]'(by omega) := getD_at l [] (by omega)
  rw [e2, decide_eq_false (show ¬ k = 0 by omega)] at e1
  exact ⟨fun h1 h2 => range_all_step h (by rw [e1, h1, h2]; rfl), fun h2 => range_all_no hk (by rw [e1, h2]; simp)⟩
set_option maxRecDepth 100000 in
set_option maxHeartbeats 4000000 in
theorem grantsMayBe_c (x : Cm) (w : World) (hg : LL w x.gra) :
    Calls Tryz.prog 60 #[cval x] w fun e w' => e = .returned (.bool (graB x.pub x.gra.2.2)) ∧ Below w.heap.size w w' := by
  have HMH := Lib.hid (mayHave_c x)
  obtain ⟨id, sec, pub, ⟨P3, C3, l3⟩, ⟨P4, C4, l4⟩, ⟨P5, C5, l5⟩⟩ := x
  replace HMH : Hid (∀ (g : T) W, Calls Tryz.prog 82 #[.agg #[.string ⟨id.toArray⟩, .string ⟨sec.toArray⟩, .bool pub, .slice P3 l3.length C3, .slice P4 l4.length C4, .slice P5 l5.length C5], .string ⟨g.toArray⟩] W fun e w' => e = .returned (.bool (mayB pub g)) ∧ Below W.heap.size W w') := HMH
  show Calls _ _ #[.agg #[.string ⟨id.toArray⟩, .string ⟨sec.toArray⟩, .bool pub, .slice P3 l3.length C3, .slice P4 l4.length C4, .slice P5 l5.length C5]] w fun e w' => e = .returned (.bool (graB pub l5)) ∧ _
  have hrow : InS w P5 l5 := hg.row
  have hlen : l5.length ≤ 140737488351232 := hg.reach
  obtain ⟨w1, hw1, hb1, hB, c0, c1, c2, c3, c4, c5⟩ := box_c w (.string ⟨id.toArray⟩) (.string ⟨sec.toArray⟩) (.bool pub) (.slice P3 l3.length C3) (.slice P4 l4.length C4) (.slice P5 l5.length C5) 49
  have HB := Lib.hid hb1
  have HBL := Lib.hid hB
  have HR := Lib.hid (ins_below hrow hb1)
  obtain ⟨n3, hn3⟩ : ∃ n, l3.length = n := ⟨_, rfl⟩
  obtain ⟨n4, hn4⟩ : ∃ n, l4.length = n := ⟨_, rfl⟩
  obtain ⟨n, hn⟩ : ∃ n, l5.length = n := ⟨_, rfl⟩
  rw [hn3, hn4, hn] at hw1 HBL HMH ⊢
  rw [hn] at hlen c5
  have HN := Lib.hid hn
  clear hb1 hB hg hrow hn hn3 hn4 c0 c1 c2 c3 c4
  go_enter Tryz.func60, Tryz.ntmps60
  go_wp2_with fail
  clear hw1 c5
  go_loopg [9] n (fun g s9 wx => ∃ k : Nat, k + g = n ∧ s9 = .int .i64 k ∧ Hid ((List.range k).all (graAt pub l5) = true) ∧ Hid (Below w1.heap.size w1 wx))
  case atStart => exact ⟨0, by omega, rfl, rfl, Lib.hid (Below.refl _ _)⟩
  case round =>
    obtain ⟨k, hkg, rfl, HI, HW⟩ := hrel
    rcases gk with _ | g
    · obtain rfl : k = n := by omega
      have HF : Hid (graB pub l5 = true) := by
        have h := HI.out
        show (List.range l5.length).all (graAt pub l5) = true
        rw [HN.out]; exact h
      go_wp2_with fail
      go_ret
      exact ⟨ret_bool HF.out.symm, bnext HB.out HW.out⟩
    · have hk : k < l5.length := by rw [HN.out]; omega
      have hkI : (k : Int) < (n : Int) := by omega
      obtain ⟨b, o, hP, d0⟩ := ins_cell (ins_below HR.out HW.out) k hk
      have HS := Lib.hid (gra_step hk HI.out)
      obtain ⟨c0, c1, c2, c3, c4, c5⟩ := blk6 (HBL.out.below HW.out)
      have hne : wr.heap.size = wr.heap.size := rfl
      obtain ⟨x0, hx0⟩ : ∃ x0, l5[k] = x0 := ⟨_, rfl⟩
      have HG := Lib.hid (HMH.out x0 wr)
      rw [hx0] at d0 HS
      have HX := Lib.hid hx0
      subst hP
      clear hx0 hne
      cases hm : mayB pub x0 with
      | false =>
        have HF := Lib.hid (HS.out.1 hm)
        rw [hm] at HG
        clear hm HS
        go_wp2_with (go_at_call 82; (with_reducible refine HG.out.mono ?_); rintro e w2 ⟨rfl, hb2⟩; have HB2 := Lib.hid (bnext HW.out hb2); clear hb2)
        go_ret
        exact ⟨ret_bool HF.out.symm, bnext HB.out HB2.out⟩
      | true =>
        rw [hm] at HG
        by_cases h0 : k = 0
        · have HF := Lib.hid (HS.out.2.1 h0 hm)
          have hz : decide (0 < k) = false := decide_eq_false (by omega)
          clear hm HS h0
          go_wp2_with (go_at_call 82; (with_reducible refine HG.out.mono ?_); rintro e w2 ⟨rfl, hb2⟩; have HB2 := Lib.hid (bnext HW.out hb2); clear hb2)
          go_roundg g
          case measure => omega
          case rel => exact ⟨k + 1, by omega, by go_num, HF, HB2⟩
        · have h0' : 0 < k := by omega
          have hk1 : k - 1 < l5.length := by omega
          obtain ⟨j, hj⟩ : ∃ j, k = j + 1 := ⟨k - 1, by omega⟩
          subst hj
          have hj2 : j < l5.length := by omega
          obtain ⟨b2, o2, hP2, e0⟩ := ins_cell (ins_below HR.out HW.out) j hj2
          injection hP2 with hP2
          injection hP2 with q1 q2
          subst q1
          subst q2
          have H2 := HS.out.2.2 h0'
          rw [show l5[j + 1 - 1]'(by omega) = l5[j] from rfl] at H2
          obtain ⟨y0, hy0⟩ : ∃ y0, l5[j] = y0 := ⟨_, rfl⟩
          rw [hy0] at e0 H2
          have HS2 := Lib.hid H2
          have HE0 : Hid (∀ W, Below wr.heap.size wr W → W.cell? ⟨b, o + j, none⟩ = some (.string ⟨y0.toArray⟩)) := Lib.hid fun W hW => (hW.cell (p := ⟨b, o + j, none⟩) (cell_lt e0)).trans e0
          have HBX : Hid (∀ W, Below wr.heap.size wr W → W.cell? ⟨w.heap.size, 5, none⟩ = some (.slice (some ⟨b, o, none⟩) n C5)) := Lib.hid fun W hW => (hW.cell (p := ⟨w.heap.size, 5, none⟩) (cell_lt c5)).trans c5
          clear H2 HS hy0 hj2 hk1
          have hz : decide (0 < j + 1) = true := decide_eq_true (by omega)
          have HWB : Hid (Below wr.heap.size wr wr) := Lib.hid (Below.refl _ _)
          have hj1 : ((j + 1 : Nat) : Int) - 1 = (j : Int) := by omega
          have hjI : (j : Int) < (n : Int) := by omega
          cases hl : lt y0 x0 with
          | true =>
            have HF := Lib.hid (HS2.out.1 hm hl)
            have hlb : Go.Op.bytesLess y0 x0 = true := hl
            clear hm HS2 hl h0
            go_wp2_with (go_at_call 82; (with_reducible refine HG.out.mono ?_); rintro e w2 ⟨rfl, hb2⟩; have HB2 := Lib.hid (bnext HW.out hb2); have e2 := HE0.out w2 hb2; have f2 := HBX.out w2 hb2; clear hb2)
            go_roundg g
            case measure => omega
            case rel => exact ⟨j + 1 + 1, by omega, by go_num, HF, HB2⟩
          | false =>
            have HF := Lib.hid (HS2.out.2 hl)
            have hlb : Go.Op.bytesLess y0 x0 = false := hl
            clear hm HS2 hl h0
            go_wp2_with (go_at_call 82; (with_reducible refine HG.out.mono ?_); rintro e w2 ⟨rfl, hb2⟩; have HB2 := Lib.hid (bnext HW.out hb2); have e2 := HE0.out w2 hb2; have f2 := HBX.out w2 hb2; clear hb2)
            go_ret
            exact ⟨ret_bool HF.out.symm, bnext HB.out HB2.out⟩
end Go.Proofs.YtfeafhagnhbmiaaGreatDoor.rol
