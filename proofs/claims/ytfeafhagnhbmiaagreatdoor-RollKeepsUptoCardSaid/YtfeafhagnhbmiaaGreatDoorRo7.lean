/- The developers' redirectsMayBe. No condition beyond what slices and texts are. -/
import Derived.Test.YtfeafhagnhbmiaaGreatDoorRo4
import Derived.Test.YtfeafhagnhbmiaaGreatDoorRo5
namespace Go.Proofs.YtfeafhagnhbmiaaGreatDoor.rol
open Go.RowKit
open Go.Proofs.YtfeafhagnhbmiaaGreatDoor.oct Go.Proofs.YtfeafhagnhbmiaaGreatDoor.ref Go.Proofs.YtfeafhagnhbmiaaGreatDoor.rows Go.Proofs.YtfeafhagnhbmiaaGreatDoor.rowg
open Go.Proofs.YtfeafhagnhbmiaaGreatDoor.scp (tx senc senc_len InS ins_below ins_cell ins_take lt hasB hasB_iff Lst lval lenc GoodL FitS)

theorem red_step {l : List T} {k : Nat} (hk : k < l.length) (h : (List.range k).all (redAt l) = true) : (prB l[k] 128 = false → redB l = false) ∧ (shB l[k] = true → redB l = false) ∧ (hasB (l.take k) l[k] = true → redB l = false) ∧ (prB l[k] 128 = true → shB l[k] = false → hasB (l.take k) l[k] = false → (List.range (k + 1)).all (redAt l) = true) := by
  have e1 : redAt l k = (prB l[k] 128 && (!shB l[k] && !hasB (l.take k) l[k])) := by unfold redAt; rw [getD_at l [] hk]
  have e2 : redAt l k = false → redB l = false := fun e => by unfold redB; rw [range_all_no hk e]; simp
  exact ⟨fun h1 => e2 (by rw [e1, h1]; rfl), fun h1 => e2 (by rw [e1, h1]; simp), fun h1 => e2 (by rw [e1, h1]; simp), fun h1 h2 h3 => range_all_step h (by rw [e1, h1, h2, h3]; rfl)⟩
set_option maxRecDepth 100000 in
set_option maxHeartbeats 4000000 in
theorem redirectsMayBe_c (x : Cm) (w : World) (hg : LL w x.red) :
    Calls Tryz.prog 58 #[cval x] w fun e w' => e = .returned (.bool (redB x.red.2.2)) ∧ Below w.heap.size w w' := by
  obtain ⟨id, sec, pub, ⟨P3, C3, l3⟩, ⟨P4, C4, l4⟩, ⟨P5, C5, l5⟩⟩ := x
  show Calls _ _ #[.agg #[.string ⟨id.toArray⟩, .string ⟨sec.toArray⟩, .bool pub, .slice P3 l3.length C3, .slice P4 l4.length C4, .slice P5 l5.length C5]] w fun e w' => e = .returned (.bool (redB l3)) ∧ _
  have hrow : InS w P3 l3 := hg.row
  have hcap : l3.length ≤ C3 := hg.room
  obtain ⟨w1, hw1, hb1, hB, c0, c1, c2, c3, c4, c5⟩ := box_c w (.string ⟨id.toArray⟩) (.string ⟨sec.toArray⟩) (.bool pub) (.slice P3 l3.length C3) (.slice P4 l4.length C4) (.slice P5 l5.length C5) 49
  have HB := Lib.hid hb1
  have HR := Lib.hid (ins_below hrow hb1)
  by_cases h4 : l3.length ≤ 4
  · have H4 := Lib.hid h4
    obtain ⟨n, hn⟩ : ∃ n, l3.length = n := ⟨_, rfl⟩
    rw [hn] at h4 c3 hw1 hcap ⊢
    have HN := Lib.hid hn
    have i4 : decide (4 < n) = false := decide_eq_false (by omega)
    clear hb1 hB hg hrow hn c0 c1 c2 c4 c5
    go_enter Tryz.func58, Tryz.ntmps58
    go_wp2_with fail
    clear hw1
    go_loopg [14] n (fun g s9 wx => ∃ k : Nat, k + g = n ∧ s9 = .int .i64 k ∧ Hid ((List.range k).all (redAt l3) = true) ∧ wx = w1)
    case atStart => exact ⟨0, by omega, rfl, rfl, rfl⟩
    case round =>
      obtain ⟨k, hkg, rfl, HI, rfl⟩ := hrel
      rcases gk with _ | g
      · obtain rfl : k = n := by omega
        have HF : Hid (redB l3 = true) := by
          have h := HI.out
          show (decide (l3.length ≤ 4) && (List.range l3.length).all (redAt l3)) = true
          rw [decide_eq_true H4.out, HN.out, h]; rfl
        go_wp2_with fail
        go_ret
        exact ⟨ret_bool HF.out.symm, HB.out⟩
      · have hk : k < l3.length := by rw [HN.out]; omega
        have hkI : (k : Int) < (n : Int) := by omega
        obtain ⟨b, o, hP, d0⟩ := ins_cell HR.out k hk
        have HS := Lib.hid (red_step hk HI.out)
        have HHS := Lib.hid (shas_c P3 C3 k (l3.take k) l3[k] wr (ins_take HR.out k (by omega)) (by rw [List.length_take]; omega) (by omega))
        have HPR := Lib.hid (isText128 l3[k] wr)
        have HSH := Lib.hid (contains_c l3[k] wr)
        obtain ⟨x0, hx0⟩ : ∃ x0, l3[k] = x0 := ⟨_, rfl⟩
        obtain ⟨m0, hm0⟩ : ∃ m0, hasB (l3.take k) x0 = m0 := ⟨_, rfl⟩
        rw [hx0] at d0 HS HHS HPR HSH
        rw [hm0] at HS HHS
        subst hP
        have hkc : k ≤ C3 := by omega
        clear hx0 hm0
        cases hp : prB x0 128 with
        | false =>
          have HF := Lib.hid (HS.out.1 hp)
          rw [hp] at HPR
          clear hp HS
          go_wp2_with (first
            | (go_at_call 56; (with_reducible refine HPR.out.mono ?_); rintro e w2 ⟨rfl, rfl⟩)
            | fail)
          go_ret
          exact ⟨ret_bool HF.out.symm, HB.out⟩
        | true =>
          rw [hp] at HPR
          cases hs : shB x0 with
          | true =>
            have HF := Lib.hid (HS.out.2.1 hs)
            rw [hs] at HSH
            clear hp hs HS
            go_wp2_with (first
              | (go_at_call 56; (with_reducible refine HPR.out.mono ?_); rintro e w2 ⟨rfl, rfl⟩)
              | (go_at_call 79; (with_reducible refine HSH.out.mono ?_); rintro e w2 ⟨rfl, rfl⟩)
              | fail)
            go_ret
            exact ⟨ret_bool HF.out.symm, HB.out⟩
          | false =>
            rw [hs] at HSH
            cases m0 with
            | true =>
              have HF := Lib.hid (HS.out.2.2.1 rfl)
              clear hp hs HS
              go_wp2_with (first
                | (go_at_call 56; (with_reducible refine HPR.out.mono ?_); rintro e w2 ⟨rfl, rfl⟩)
                | (go_at_call 79; (with_reducible refine HSH.out.mono ?_); rintro e w2 ⟨rfl, rfl⟩)
                | (go_at_call 24; (with_reducible refine HHS.out.mono ?_); rintro e w2 ⟨rfl, rfl⟩)
                | fail)
              go_ret
              exact ⟨ret_bool HF.out.symm, HB.out⟩
            | false =>
              have HF := Lib.hid (HS.out.2.2.2 hp hs rfl)
              clear hp hs HS
              go_wp2_with (first
                | (go_at_call 56; (with_reducible refine HPR.out.mono ?_); rintro e w2 ⟨rfl, rfl⟩)
                | (go_at_call 79; (with_reducible refine HSH.out.mono ?_); rintro e w2 ⟨rfl, rfl⟩)
                | (go_at_call 24; (with_reducible refine HHS.out.mono ?_); rintro e w2 ⟨rfl, rfl⟩)
                | fail)
              go_roundg g
              case measure => omega
              case rel => exact ⟨k + 1, by omega, by go_num, HF, rfl⟩
  · have HF : Hid (redB l3 = false) := by show _ = _; unfold redB; rw [decide_eq_false h4]; rfl
    obtain ⟨n, hn⟩ : ∃ n, l3.length = n := ⟨_, rfl⟩
    rw [hn] at h4 c3 hw1 ⊢
    have i4 : decide (4 < n) = true := decide_eq_true (by omega)
    clear hb1 hB hg hrow hn c0 c1 c2 c4 c5 HR hcap
    go_enter Tryz.func58, Tryz.ntmps58
    go_wp2_with fail
    go_ret
    exact ⟨ret_bool HF.out.symm, HB.out⟩
end Go.Proofs.YtfeafhagnhbmiaaGreatDoor.rol
