/- A roll or none (RolN); the developers' Redirect, May. No condition beyond what slices and texts are. -/
import Derived.Test.YtfeafhagnhbmiaaGreatDoorRoE
import Derived.Test.YtfeafhagnhbmiaaGreatDoorRo4
import Derived.Test.YtfeafhagnhbmiaaGreatDoorRo2
namespace Go.Proofs.YtfeafhagnhbmiaaGreatDoor.rol
open Go.RowKit
open Go.Proofs.YtfeafhagnhbmiaaGreatDoor.oct Go.Proofs.YtfeafhagnhbmiaaGreatDoor.ref Go.Proofs.YtfeafhagnhbmiaaGreatDoor.rows Go.Proofs.YtfeafhagnhbmiaaGreatDoor.rowg Go.Proofs.YtfeafhagnhbmiaaGreatDoor.trn
open Go.Proofs.YtfeafhagnhbmiaaGreatDoor.scp (tx senc senc_len InS ins_below ins_cell lt hasB hasB_iff Lst lval lenc GoodL FitS clone_c)

/-- a roll, or none -/
def RolN (w : World) (F : Nat → Prop) (gp : Option Addr) (ys : List Cm) : Prop := (gp = none ∧ ys = []) ∨ ∃ g, gp = some ⟨g, 0, none⟩ ∧ RolM w F g ys
theorem RolN.below {w w' : World} {F : Nat → Prop} {gp : Option Addr} {ys : List Cm} (h : RolN w F gp ys) (hb : Below w.heap.size w w') : RolN w' F gp ys := h.imp id fun ⟨g, e, h⟩ => ⟨g, e, h.below hb⟩
theorem of_n {w : World} {F : Nat → Prop} {gp : Option Addr} {ys : List Cm} (h : RolN w F gp ys) (id : T) (hid : id.length ≤ 140737488351232) :
    Calls Tryz.prog 17 #[.pointer gp, .string ⟨id.toArray⟩] w fun e w' => e = .returned (.tuple #[cval (lookM ys id).1, .bool (lookM ys id).2]) ∧ Below w.heap.size w w' := by
  rcases h with ⟨rfl, rfl⟩ | ⟨g, rfl, h⟩
  · exact of_nil id w
  · exact of_c h id hid
theorem look_goodN {w : World} {F : Nat → Prop} {gp : Option Addr} {ys : List Cm} (h : RolN w F gp ys) (id : T) : GoodC w (lookM ys id).1 ∧ Few (lookM ys id).1 ∧ ((lookM ys id).2 = true → Small (lookM ys id).1.ct) := by
  rcases h with ⟨rfl, rfl⟩ | ⟨g, rfl, m, D, h⟩
  · exact ⟨(good_zero w).1, (good_zero w).2, fun h => by cases h⟩
  · exact ⟨(look_good h id).1, (look_good h id).2, fun hb => h.small _ (lookM_yes hb).1⟩
set_option maxRecDepth 100000 in
set_option maxHeartbeats 400000 in
theorem may_c {w : World} {F : Nat → Prop} {gp : Option Addr} {ys : List Cm} (h : RolN w F gp ys) (id g : T) (hid : id.length ≤ 140737488351232) :
    Calls Tryz.prog 11 #[.pointer gp, .string ⟨id.toArray⟩, .string ⟨g.toArray⟩] w fun e w' => e = .returned (.bool (hasB (lookP (ys.map Cm.ct) id).1.gra g)) ∧ Below w.heap.size w w' := by
  have HOF := Lib.hid (of_n h id hid)
  have hlk := lookM_P ys id
  have hgd := look_goodN h id
  obtain ⟨kn, hkn⟩ : ∃ kn, (lookM ys id).2 = kn := ⟨_, rfl⟩
  obtain ⟨y, hy⟩ : ∃ y, (lookM ys id).1 = y := ⟨_, rfl⟩
  rw [hkn, hy] at HOF hlk
  rw [hy] at hgd
  have HKN := Lib.hid hkn
  have HYE := Lib.hid hy
  clear hkn hy
  obtain ⟨yid, ysec, ypub, ⟨P3, C3, l3⟩, ⟨P4, C4, l4⟩, ⟨P5, C5, l5⟩⟩ := y
  replace HOF : Hid (Calls Tryz.prog 17 #[.pointer gp, .string ⟨id.toArray⟩] w fun e w' => e = .returned (.tuple #[.agg #[.string ⟨yid.toArray⟩, .string ⟨ysec.toArray⟩, .bool ypub, .slice P3 l3.length C3, .slice P4 l4.length C4, .slice P5 l5.length C5], .bool kn]) ∧ Below w.heap.size w w') := HOF
  have hl1 : lookP (ys.map Cm.ct) id = (⟨yid, ysec, ypub, l3, l4, l5⟩, kn) := hlk.symm
  rw [hl1]
  have HHS : Hid (∀ W, Below w.heap.size w W → Calls Tryz.prog 24 #[.slice P5 l5.length C5, .string ⟨g.toArray⟩] W fun e w' => e = .returned (.bool (hasB l5 g)) ∧ W = w') := Lib.hid fun W hW => shas_c P5 C5 l5.length l5 g W (ins_below hgd.1.gra.row hW) rfl (by have h2 : l5.length ≤ 4194304 := hgd.2.1.gra; omega)
  clear h hlk hl1 hgd
  go_enter Tryz.func11, Tryz.ntmps11
  go_wp2_with (first
    | (go_at_call 17; (with_reducible refine HOF.out.mono ?_); rintro e we ⟨rfl, hbe⟩; obtain ⟨wf, wg, hVe⟩ := var_c we 49 (.string ⟨yid.toArray⟩) (.string ⟨ysec.toArray⟩) (.bool ypub) (.slice P3 l3.length C3) (.slice P4 l4.length C4) (.slice P5 l5.length C5); have he1 := hVe.a; have he2 := hVe.s; obtain ⟨s0, s1, s2, s3, s4, s5⟩ := blk6 hVe.zero; obtain ⟨t0, t1, t2, t3, t4, t5⟩ := frz6 hVe.zero; obtain ⟨v0, v1, v2, v3, v4, v5⟩ := blk6 hVe.blk; have HBG := Lib.hid (bnext hbe hVe.below); have HVB := Lib.hid hVe.blk; clear hbe hVe)
    | (go_at_call 24; (with_reducible refine (HHS.out _ HBG.out).mono ?_); rintro e wh ⟨rfl, rfl⟩))
  go_ret
  exact ⟨rfl, HBG.out⟩
set_option maxRecDepth 100000 in
set_option maxHeartbeats 400000 in
theorem redirect_c {w : World} {F : Nat → Prop} {gp : Option Addr} {ys : List Cm} (h : RolN w F gp ys) (id uri : T) (hid : id.length ≤ 140737488351232) (huri : uri.length ≤ 140737488351232) :
    Calls Tryz.prog 8 #[.pointer gp, .string ⟨id.toArray⟩, .string ⟨uri.toArray⟩] w fun e w' => e = .returned (.tuple #[.string ⟨(redirP (ys.map Cm.ct) id uri).1.toArray⟩, .bool (redirP (ys.map Cm.ct) id uri).2]) ∧ Below w.heap.size w w' := by
  have HOF := Lib.hid (of_n h id hid)
  have hlk := lookM_P ys id
  have hgd := look_goodN h id
  obtain ⟨kn, hkn⟩ : ∃ kn, (lookM ys id).2 = kn := ⟨_, rfl⟩
  obtain ⟨y, hy⟩ : ∃ y, (lookM ys id).1 = y := ⟨_, rfl⟩
  rw [hkn, hy] at HOF hlk
  rw [hy] at hgd
  have HKN := Lib.hid hkn
  have HYE := Lib.hid hy
  clear hkn hy
  obtain ⟨yid, ysec, ypub, ⟨P3, C3, l3⟩, ⟨P4, C4, l4⟩, ⟨P5, C5, l5⟩⟩ := y
  replace HOF : Hid (Calls Tryz.prog 17 #[.pointer gp, .string ⟨id.toArray⟩] w fun e w' => e = .returned (.tuple #[.agg #[.string ⟨yid.toArray⟩, .string ⟨ysec.toArray⟩, .bool ypub, .slice P3 l3.length C3, .slice P4 l4.length C4, .slice P5 l5.length C5], .bool kn]) ∧ Below w.heap.size w w') := HOF
  have hl1 : lookP (ys.map Cm.ct) id = (⟨yid, ysec, ypub, l3, l4, l5⟩, kn) := hlk.symm
  have HHS : Hid (∀ W, Below w.heap.size w W → Calls Tryz.prog 24 #[.slice P3 l3.length C3, .string ⟨uri.toArray⟩] W fun e w' => e = .returned (.bool (hasB l3 uri)) ∧ W = w') := Lib.hid fun W hW => shas_c P3 C3 l3.length l3 uri W (ins_below hgd.1.red.row hW) rfl (by have h2 : l3.length ≤ 4194304 := hgd.2.1.red; omega)
  have HCU := Lib.hid (fun W => clone_c ⟨uri.toArray⟩ W (by rw [size_mk]; omega))
  have HLL : Hid (LL w (P3, C3, l3)) := Lib.hid hgd.1.red
  have HRD : Hid (redirP (ys.map Cm.ct) id uri = if uri = [] ∧ l3.length = 1 then (l3.getD 0 [], true) else if hasB l3 uri then (uri, true) else ([], false)) := Lib.hid (by unfold redirP; rw [hl1])
  obtain ⟨rr, hrr⟩ : ∃ rr, redirP (ys.map Cm.ct) id uri = rr := ⟨_, rfl⟩
  rw [hrr] at HRD ⊢
  clear h hlk hl1 hgd hrr huri
  go_enter Tryz.func8, Tryz.ntmps8
  by_cases hu : uri = [] ∧ l3.length = 1
  · have HR : Hid (rr = (l3.getD 0 [], true)) := Lib.hid (by rw [HRD.out, if_pos hu])
    obtain ⟨hu1, hu2⟩ := hu
    subst hu1
    obtain ⟨b, o, hP, hc⟩ := ins_cell HLL.out.row 0 (by show 0 < l3.length; omega)
    have hP2 : P3 = some ⟨b, o, none⟩ := hP
    have hcl : w.cell? ⟨b, o, none⟩ = some (.string ⟨(l3.getD 0 []).toArray⟩) := by rw [getD_at l3 [] (show 0 < l3.length by omega)]; exact hc
    have hx0 : (l3.getD 0 []).length ≤ 140737488351232 := by rw [getD_at l3 [] (show 0 < l3.length by omega)]; exact HLL.out.fit _ (List.getElem_mem _)
    subst hP2
    obtain ⟨x0, hx⟩ : ∃ x0, l3.getD 0 [] = x0 := ⟨_, rfl⟩
    rw [hx] at hcl hx0 HR
    rw [hu2] at HOF HHS
    have HC0 := Lib.hid (fun W => clone_c ⟨x0.toArray⟩ W (by rw [size_mk]; omega))
    have HCX : Hid (∀ W, Below w.heap.size w W → W.cell? ⟨b, o, none⟩ = some (.string ⟨x0.toArray⟩)) := Lib.hid fun W hW => (hW.cell (p := ⟨b, o, none⟩) (cell_lt hcl)).trans hcl
    clear hP hc hx hx0 hcl HLL hu2
    go_wp2_with (first
      | (go_at_call 17; (with_reducible refine HOF.out.mono ?_); rintro e we ⟨rfl, hbe⟩; obtain ⟨wf, wg, hVe⟩ := var_c we 49 (.string ⟨yid.toArray⟩) (.string ⟨ysec.toArray⟩) (.bool ypub) (.slice (some ⟨b, o, none⟩) 1 C3) (.slice P4 l4.length C4) (.slice P5 l5.length C5); have he1 := hVe.a; have he2 := hVe.s; obtain ⟨s0, s1, s2, s3, s4, s5⟩ := blk6 hVe.zero; obtain ⟨t0, t1, t2, t3, t4, t5⟩ := frz6 hVe.zero; obtain ⟨v0, v1, v2, v3, v4, v5⟩ := blk6 hVe.blk; have HBG := Lib.hid (bnext hbe hVe.below); have HVB := Lib.hid hVe.blk; have z0 := HCX.out wg HBG.out; clear hbe hVe)
      | (go_at_call 23; (with_reducible refine (HC0.out _).mono ?_); rintro e wh ⟨rfl, hbh⟩; have HBH := Lib.hid (bnext HBG.out hbh); clear hbh))
    go_ret2
    exact ⟨by have h := HR.out; subst h; rfl, HBH.out⟩
  · have HRD2 : Hid (rr = if hasB l3 uri then (uri, true) else ([], false)) := Lib.hid (by rw [HRD.out, if_neg hu])
    have b1 : uri.isEmpty = true → decide (l3.length = 1) = false := fun e => decide_eq_false fun e2 => hu ⟨List.isEmpty_iff.1 e, e2⟩
    obtain ⟨n3, hn3⟩ : ∃ n, l3.length = n := ⟨_, rfl⟩
    rw [hn3] at HOF HHS b1
    clear hu hn3 HRD
    cases hh : hasB l3 uri with
    | true =>
      have HR : Hid (rr = (uri, true)) := Lib.hid (by rw [HRD2.out, if_pos hh])
      rw [hh] at HHS
      clear hh HRD2
      cases he : uri.isEmpty with
      | true =>
        have b2 := b1 he
        have b3 : ((n3 : Int) == 1) = false := by simp at b2 ⊢; omega
        clear b1
        go_wp2_with (first
          | (go_at_call 17; (with_reducible refine HOF.out.mono ?_); rintro e we ⟨rfl, hbe⟩; obtain ⟨wf, wg, hVe⟩ := var_c we 49 (.string ⟨yid.toArray⟩) (.string ⟨ysec.toArray⟩) (.bool ypub) (.slice P3 n3 C3) (.slice P4 l4.length C4) (.slice P5 l5.length C5); have he1 := hVe.a; have he2 := hVe.s; obtain ⟨s0, s1, s2, s3, s4, s5⟩ := blk6 hVe.zero; obtain ⟨t0, t1, t2, t3, t4, t5⟩ := frz6 hVe.zero; obtain ⟨v0, v1, v2, v3, v4, v5⟩ := blk6 hVe.blk; have HBG := Lib.hid (bnext hbe hVe.below); have HVB := Lib.hid hVe.blk; clear hbe hVe)
          | (go_at_call 24; (with_reducible refine (HHS.out _ HBG.out).mono ?_); rintro e wh ⟨rfl, rfl⟩)
          | (go_at_call 23; (with_reducible refine (HCU.out _).mono ?_); rintro e wh ⟨rfl, hbh⟩; have HBH := Lib.hid (bnext HBG.out hbh); clear hbh))
        go_ret2
        exact ⟨by have h := HR.out; subst h; rfl, HBH.out⟩
      | false =>
        clear b1
        go_wp2_with (first
          | (go_at_call 17; (with_reducible refine HOF.out.mono ?_); rintro e we ⟨rfl, hbe⟩; obtain ⟨wf, wg, hVe⟩ := var_c we 49 (.string ⟨yid.toArray⟩) (.string ⟨ysec.toArray⟩) (.bool ypub) (.slice P3 n3 C3) (.slice P4 l4.length C4) (.slice P5 l5.length C5); have he1 := hVe.a; have he2 := hVe.s; obtain ⟨s0, s1, s2, s3, s4, s5⟩ := blk6 hVe.zero; obtain ⟨t0, t1, t2, t3, t4, t5⟩ := frz6 hVe.zero; obtain ⟨v0, v1, v2, v3, v4, v5⟩ := blk6 hVe.blk; have HBG := Lib.hid (bnext hbe hVe.below); have HVB := Lib.hid hVe.blk; clear hbe hVe)
          | (go_at_call 24; (with_reducible refine (HHS.out _ HBG.out).mono ?_); rintro e wh ⟨rfl, rfl⟩)
          | (go_at_call 23; (with_reducible refine (HCU.out _).mono ?_); rintro e wh ⟨rfl, hbh⟩; have HBH := Lib.hid (bnext HBG.out hbh); clear hbh))
        go_ret2
        exact ⟨by have h := HR.out; subst h; rfl, HBH.out⟩
    | false =>
      have HR : Hid (rr = ([], false)) := Lib.hid (by rw [HRD2.out, hh]; rfl)
      rw [hh] at HHS
      clear hh HRD2
      cases he : uri.isEmpty with
      | true =>
        have b2 := b1 he
        have b3 : ((n3 : Int) == 1) = false := by simp at b2 ⊢; omega
        clear b1
        go_wp2_with (first
          | (go_at_call 17; (with_reducible refine HOF.out.mono ?_); rintro e we ⟨rfl, hbe⟩; obtain ⟨wf, wg, hVe⟩ := var_c we 49 (.string ⟨yid.toArray⟩) (.string ⟨ysec.toArray⟩) (.bool ypub) (.slice P3 n3 C3) (.slice P4 l4.length C4) (.slice P5 l5.length C5); have he1 := hVe.a; have he2 := hVe.s; obtain ⟨s0, s1, s2, s3, s4, s5⟩ := blk6 hVe.zero; obtain ⟨t0, t1, t2, t3, t4, t5⟩ := frz6 hVe.zero; obtain ⟨v0, v1, v2, v3, v4, v5⟩ := blk6 hVe.blk; have HBG := Lib.hid (bnext hbe hVe.below); have HVB := Lib.hid hVe.blk; clear hbe hVe)
          | (go_at_call 24; (with_reducible refine (HHS.out _ HBG.out).mono ?_); rintro e wh ⟨rfl, rfl⟩))
        go_ret2
        exact ⟨by have h := HR.out; subst h; rfl, HBG.out⟩
      | false =>
        clear b1
        go_wp2_with (first
          | (go_at_call 17; (with_reducible refine HOF.out.mono ?_); rintro e we ⟨rfl, hbe⟩; obtain ⟨wf, wg, hVe⟩ := var_c we 49 (.string ⟨yid.toArray⟩) (.string ⟨ysec.toArray⟩) (.bool ypub) (.slice P3 n3 C3) (.slice P4 l4.length C4) (.slice P5 l5.length C5); have he1 := hVe.a; have he2 := hVe.s; obtain ⟨s0, s1, s2, s3, s4, s5⟩ := blk6 hVe.zero; obtain ⟨t0, t1, t2, t3, t4, t5⟩ := frz6 hVe.zero; obtain ⟨v0, v1, v2, v3, v4, v5⟩ := blk6 hVe.blk; have HBG := Lib.hid (bnext hbe hVe.below); have HVB := Lib.hid hVe.blk; clear hbe hVe)
          | (go_at_call 24; (with_reducible refine (HHS.out _ HBG.out).mono ?_); rintro e wh ⟨rfl, rfl⟩))
        go_ret2
        exact ⟨by have h := HR.out; subst h; rfl, HBG.out⟩
end Go.Proofs.YtfeafhagnhbmiaaGreatDoor.rol
