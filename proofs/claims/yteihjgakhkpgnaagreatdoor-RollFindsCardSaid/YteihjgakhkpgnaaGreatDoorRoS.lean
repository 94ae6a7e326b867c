/- The reference's Redirect, Scope. No condition beyond what slices and texts are. -/
import Derived.Test.YteihjgakhkpgnaaGreatDoorRoR
namespace Go.Proofs.YteihjgakhkpgnaaGreatDoor.rol
open Go.RowKit
open Go.Proofs.YteihjgakhkpgnaaGreatDoor.oct Go.Proofs.YteihjgakhkpgnaaGreatDoor.ref Go.Proofs.YteihjgakhkpgnaaGreatDoor.rows Go.Proofs.YteihjgakhkpgnaaGreatDoor.rowg Go.Proofs.YteihjgakhkpgnaaGreatDoor.trn
open Go.Proofs.YteihjgakhkpgnaaGreatDoor.scp (tx senc senc_len InS ins_below ins_cell lt hasB hasB_iff Lst lval lenc GoodL FitS setP withinP RowA own_good fit_set setP_len rset_c rwithin_c rhas_c)

theorem lookm_good {w : World} {xs : List Cm} (hg : ∀ x ∈ xs, GoodC w x) (hs : ∀ x ∈ xs, Small x.ct) (id : T) : GoodC w (lookM xs id).1 ∧ Few (lookM xs id).1 := by
  cases hb : (lookM xs id).2 with
  | true =>
    have h1 := (lookM_yes hb).1
    have h2 := hs _ h1
    have e1 : (lookM xs id).1.red.2.2.length ≤ 4 := h2.red
    have e2 : (lookM xs id).1.sco.2.2.length ≤ 32 := h2.sco
    have e3 : (lookM xs id).1.gra.2.2.length ≤ 3 := h2.gra
    exact ⟨hg _ h1, by omega, by omega, by omega⟩
  | false =>
    rw [(lookM_no hb).1]
    exact good_zero w
set_option maxRecDepth 100000 in
set_option maxHeartbeats 400000 in
theorem rredirect_c (P0 : Option Addr) (C0 : Nat) (xs : List Cm) (id uri : T) (w : World) (hp : InC w P0 xs) (hg : ∀ x ∈ xs, GoodC w x) (hsm : ∀ x ∈ xs, Small x.ct) (hl : xs.length ≤ 140737488355328) :
    Calls Tryz.prog 22 #[.slice P0 xs.length C0, .string ⟨id.toArray⟩, .string ⟨uri.toArray⟩] w fun e w' => e = .returned (.tuple #[.string ⟨(redirP (xs.map Cm.ct) id uri).1.toArray⟩, .bool (redirP (xs.map Cm.ct) id uri).2]) ∧ Below w.heap.size w w' := by
  have HOF := Lib.hid (rfind_c P0 C0 xs id w hp hl)
  have hlk := lookM_P xs id
  have hgd := lookm_good hg hsm id
  obtain ⟨kn, hkn⟩ : ∃ kn, (lookM xs id).2 = kn := ⟨_, rfl⟩
  obtain ⟨y, hy⟩ : ∃ y, (lookM xs id).1 = y := ⟨_, rfl⟩
  rw [hkn, hy] at HOF hlk
  rw [hy] at hgd
  have hzz : kn = false → y = zCm := fun e => by rw [← hy, (lookM_no (by rw [hkn]; exact e)).1]
  clear hkn hy
  obtain ⟨yid, ysec, ypub, ⟨P3, C3, l3⟩, ⟨P4, C4, l4⟩, ⟨P5, C5, l5⟩⟩ := y
  replace HOF : Hid (Calls Tryz.prog 14 #[.slice P0 xs.length C0, .string ⟨id.toArray⟩] w fun e w' => e = .returned (.tuple #[.agg #[.string ⟨yid.toArray⟩, .string ⟨ysec.toArray⟩, .bool ypub, .slice P3 l3.length C3, .slice P4 l4.length C4, .slice P5 l5.length C5], .bool kn]) ∧ Below w.heap.size w w') := HOF
  have hl1 : lookP (xs.map Cm.ct) id = (⟨yid, ysec, ypub, l3, l4, l5⟩, kn) := hlk.symm
  have hzl : kn = false → l3 = [] := fun e => congrArg (fun c : Cm => c.red.2.2) (hzz e)
  obtain ⟨n0, hn0⟩ : ∃ n, xs.length = n := ⟨_, rfl⟩
  rw [hn0] at HOF ⊢
  have HHS : Hid (∀ W, Below w.heap.size w W → Calls Tryz.prog 27 #[.slice P3 l3.length C3, .string ⟨uri.toArray⟩] W fun e w' => e = .returned (.bool (hasB l3 uri)) ∧ W = w') := Lib.hid fun W hW => rhas_c P3 C3 l3 uri W (ins_below hgd.1.red.row hW) (by have h2 : l3.length ≤ 4194304 := hgd.2.red; omega)
  have HLL : Hid (LL w (P3, C3, l3)) := Lib.hid hgd.1.red
  have HRD : Hid (redirP (xs.map Cm.ct) id uri = if uri = [] ∧ l3.length = 1 then (l3.getD 0 [], true) else if hasB l3 uri then (uri, true) else ([], false)) := Lib.hid (by unfold redirP; rw [hl1])
  obtain ⟨rr, hrr⟩ : ∃ rr, redirP (xs.map Cm.ct) id uri = rr := ⟨_, rfl⟩
  rw [hrr] at HRD ⊢
  have HZL := Lib.hid hzl
  clear hp hg hsm hl hlk hl1 hgd hrr hzz hzl hn0
  go_enter Tryz.func22, Tryz.ntmps22
  cases kn with
  | false =>
    have e3 := HZL.out rfl
    have HR : Hid (rr = ([], false)) := Lib.hid (by rw [HRD.out, e3]; simp [hasB])
    clear e3
    go_wp2_with (first
      | (go_at_call 14; (with_reducible refine HOF.out.mono ?_); rintro e we ⟨rfl, hbe⟩; obtain ⟨wf, wg, hVe⟩ := var_c we 32 (.string ⟨yid.toArray⟩) (.string ⟨ysec.toArray⟩) (.bool ypub) (.slice P3 l3.length C3) (.slice P4 l4.length C4) (.slice P5 l5.length C5); have he1 := hVe.a; have he2 := hVe.s; obtain ⟨s0, s1, s2, s3, s4, s5⟩ := blk6 hVe.zero; obtain ⟨t0, t1, t2, t3, t4, t5⟩ := frz6 hVe.zero; obtain ⟨v0, v1, v2, v3, v4, v5⟩ := blk6 hVe.blk; have HBG := Lib.hid (bnext hbe hVe.below); have HVB := Lib.hid hVe.blk; clear hbe hVe))
    go_ret2
    exact ⟨by have h := HR.out; subst h; rfl, HBG.out⟩
  | true =>
    by_cases hu : uri = [] ∧ l3.length = 1
    · have HR : Hid (rr = (l3.getD 0 [], true)) := Lib.hid (by rw [HRD.out, if_pos hu])
      obtain ⟨hu1, hu2⟩ := hu
      subst hu1
      obtain ⟨b, o, hP, hc⟩ := ins_cell HLL.out.row 0 (by show 0 < l3.length; omega)
      have hP2 : P3 = some ⟨b, o, none⟩ := hP
      have hcl : w.cell? ⟨b, o, none⟩ = some (.string ⟨(l3.getD 0 []).toArray⟩) := by rw [getD_at l3 [] (show 0 < l3.length by omega)]; exact hc
      subst hP2
      obtain ⟨x0, hx⟩ : ∃ x0, l3.getD 0 [] = x0 := ⟨_, rfl⟩
      rw [hx] at hcl HR
      rw [hu2] at HOF HHS
      have HCX : Hid (∀ W, Below w.heap.size w W → W.cell? ⟨b, o, none⟩ = some (.string ⟨x0.toArray⟩)) := Lib.hid fun W hW => (hW.cell (p := ⟨b, o, none⟩) (cell_lt hcl)).trans hcl
      clear hP hc hx hcl HLL hu2
      go_wp2_with (first
        | (go_at_call 14; (with_reducible refine HOF.out.mono ?_); rintro e we ⟨rfl, hbe⟩; obtain ⟨wf, wg, hVe⟩ := var_c we 32 (.string ⟨yid.toArray⟩) (.string ⟨ysec.toArray⟩) (.bool ypub) (.slice (some ⟨b, o, none⟩) 1 C3) (.slice P4 l4.length C4) (.slice P5 l5.length C5); have he1 := hVe.a; have he2 := hVe.s; obtain ⟨s0, s1, s2, s3, s4, s5⟩ := blk6 hVe.zero; obtain ⟨t0, t1, t2, t3, t4, t5⟩ := frz6 hVe.zero; obtain ⟨v0, v1, v2, v3, v4, v5⟩ := blk6 hVe.blk; have HBG := Lib.hid (bnext hbe hVe.below); have HVB := Lib.hid hVe.blk; have zz0 := HCX.out wg HBG.out; clear hbe hVe))
      go_ret2
      exact ⟨by have h := HR.out; subst h; rfl, HBG.out⟩
    · have HRD2 : Hid (rr = if hasB l3 uri then (uri, true) else ([], false)) := Lib.hid (by rw [HRD.out, if_neg hu])
      have b1 : uri.isEmpty = true → decide (l3.length = 1) = false := fun e => decide_eq_false fun e2 => hu ⟨List.isEmpty_iff.1 e, e2⟩
      obtain ⟨n3, hn3⟩ : ∃ n, l3.length = n := ⟨_, rfl⟩
      rw [hn3] at HOF HHS b1
      clear hu hn3 HRD
      obtain ⟨hh, hhh⟩ : ∃ b, hasB l3 uri = b := ⟨_, rfl⟩
      rw [hhh] at HHS HRD2
      clear hhh
      cases hh with
      | true =>
        have HR : Hid (rr = (uri, true)) := Lib.hid (by rw [HRD2.out]; rfl)
        cases he : uri.isEmpty with
        | true =>
          have b2 := b1 he
          have b3 : ((n3 : Int) == 1) = false := by simp at b2 ⊢; omega
          clear b1
          go_wp2_with (first
            | (go_at_call 14; (with_reducible refine HOF.out.mono ?_); rintro e we ⟨rfl, hbe⟩; obtain ⟨wf, wg, hVe⟩ := var_c we 32 (.string ⟨yid.toArray⟩) (.string ⟨ysec.toArray⟩) (.bool ypub) (.slice P3 n3 C3) (.slice P4 l4.length C4) (.slice P5 l5.length C5); have he1 := hVe.a; have he2 := hVe.s; obtain ⟨s0, s1, s2, s3, s4, s5⟩ := blk6 hVe.zero; obtain ⟨t0, t1, t2, t3, t4, t5⟩ := frz6 hVe.zero; obtain ⟨v0, v1, v2, v3, v4, v5⟩ := blk6 hVe.blk; have HBG := Lib.hid (bnext hbe hVe.below); have HVB := Lib.hid hVe.blk; clear hbe hVe)
            | (go_at_call 27; (with_reducible refine (HHS.out _ HBG.out).mono ?_); rintro e wh ⟨rfl, rfl⟩))
          go_ret2
          exact ⟨by have h := HR.out; subst h; rfl, HBG.out⟩
        | false =>
          clear b1
          go_wp2_with (first
            | (go_at_call 14; (with_reducible refine HOF.out.mono ?_); rintro e we ⟨rfl, hbe⟩; obtain ⟨wf, wg, hVe⟩ := var_c we 32 (.string ⟨yid.toArray⟩) (.string ⟨ysec.toArray⟩) (.bool ypub) (.slice P3 n3 C3) (.slice P4 l4.length C4) (.slice P5 l5.length C5); have he1 := hVe.a; have he2 := hVe.s; obtain ⟨s0, s1, s2, s3, s4, s5⟩ := blk6 hVe.zero; obtain ⟨t0, t1, t2, t3, t4, t5⟩ := frz6 hVe.zero; obtain ⟨v0, v1, v2, v3, v4, v5⟩ := blk6 hVe.blk; have HBG := Lib.hid (bnext hbe hVe.below); have HVB := Lib.hid hVe.blk; clear hbe hVe)
            | (go_at_call 27; (with_reducible refine (HHS.out _ HBG.out).mono ?_); rintro e wh ⟨rfl, rfl⟩))
          go_ret2
          exact ⟨by have h := HR.out; subst h; rfl, HBG.out⟩
      | false =>
        have HR : Hid (rr = ([], false)) := Lib.hid (by rw [HRD2.out]; rfl)
        cases he : uri.isEmpty with
        | true =>
          have b2 := b1 he
          have b3 : ((n3 : Int) == 1) = false := by simp at b2 ⊢; omega
          clear b1
          go_wp2_with (first
            | (go_at_call 14; (with_reducible refine HOF.out.mono ?_); rintro e we ⟨rfl, hbe⟩; obtain ⟨wf, wg, hVe⟩ := var_c we 32 (.string ⟨yid.toArray⟩) (.string ⟨ysec.toArray⟩) (.bool ypub) (.slice P3 n3 C3) (.slice P4 l4.length C4) (.slice P5 l5.length C5); have he1 := hVe.a; have he2 := hVe.s; obtain ⟨s0, s1, s2, s3, s4, s5⟩ := blk6 hVe.zero; obtain ⟨t0, t1, t2, t3, t4, t5⟩ := frz6 hVe.zero; obtain ⟨v0, v1, v2, v3, v4, v5⟩ := blk6 hVe.blk; have HBG := Lib.hid (bnext hbe hVe.below); have HVB := Lib.hid hVe.blk; clear hbe hVe)
            | (go_at_call 27; (with_reducible refine (HHS.out _ HBG.out).mono ?_); rintro e wh ⟨rfl, rfl⟩))
          go_ret2
          exact ⟨by have h := HR.out; subst h; rfl, HBG.out⟩
        | false =>
          clear b1
          go_wp2_with (first
            | (go_at_call 14; (with_reducible refine HOF.out.mono ?_); rintro e we ⟨rfl, hbe⟩; obtain ⟨wf, wg, hVe⟩ := var_c we 32 (.string ⟨yid.toArray⟩) (.string ⟨ysec.toArray⟩) (.bool ypub) (.slice P3 n3 C3) (.slice P4 l4.length C4) (.slice P5 l5.length C5); have he1 := hVe.a; have he2 := hVe.s; obtain ⟨s0, s1, s2, s3, s4, s5⟩ := blk6 hVe.zero; obtain ⟨t0, t1, t2, t3, t4, t5⟩ := frz6 hVe.zero; obtain ⟨v0, v1, v2, v3, v4, v5⟩ := blk6 hVe.blk; have HBG := Lib.hid (bnext hbe hVe.below); have HVB := Lib.hid hVe.blk; clear hbe hVe)
            | (go_at_call 27; (with_reducible refine (HHS.out _ HBG.out).mono ?_); rintro e wh ⟨rfl, rfl⟩))
          go_ret2
          exact ⟨by have h := HR.out; subst h; rfl, HBG.out⟩
/-- a list that is told, good, and whether -/
def ListG (w w' : World) (r : List T × Bool) (e : Ending) : Prop := ∃ p c, e = .returned (.tuple #[.slice p r.1.length c, .bool r.2]) ∧ GoodL w' (p, c, r.1) ∧ Below w.heap.size w w'
theorem good_nil (w : World) : GoodL w (none, 0, []) := ⟨fun h => absurd h (by simp), Nat.le_refl _, fun _ => rfl, (fun x hx => by cases hx), by simp⟩
set_option maxRecDepth 100000 in
set_option maxHeartbeats 400000 in
theorem rscope_c (P0 : Option Addr) (C0 : Nat) (xs : List Cm) (id : T) (P : Option Addr) (C : Nat) (l : List T) (w : World) (hp : InC w P0 xs) (hg : ∀ x ∈ xs, GoodC w x) (hsm : ∀ x ∈ xs, Small x.ct) (hl : xs.length ≤ 140737488355328) (hx : GoodL w (P, C, l)) :
    Calls Tryz.prog 24 #[.slice P0 xs.length C0, .string ⟨id.toArray⟩, .slice P l.length C] w fun e w' => ListG w w' (scopeP (xs.map Cm.ct) id l) e := by
  have HOF := Lib.hid (rfind_c P0 C0 xs id w hp hl)
  have hlk := lookM_P xs id
  have hgd := lookm_good hg hsm id
  obtain ⟨kn, hkn⟩ : ∃ kn, (lookM xs id).2 = kn := ⟨_, rfl⟩
  obtain ⟨y, hy⟩ : ∃ y, (lookM xs id).1 = y := ⟨_, rfl⟩
  rw [hkn, hy] at HOF hlk
  rw [hy] at hgd
  have hzz : kn = false → y = zCm := fun e => by rw [← hy, (lookM_no (by rw [hkn]; exact e)).1]
  clear hkn hy
  obtain ⟨yid, ysec, ypub, ⟨P3, C3, l3⟩, ⟨P4, C4, l4⟩, ⟨P5, C5, l5⟩⟩ := y
  replace HOF : Hid (Calls Tryz.prog 14 #[.slice P0 xs.length C0, .string ⟨id.toArray⟩] w fun e w' => e = .returned (.tuple #[.agg #[.string ⟨yid.toArray⟩, .string ⟨ysec.toArray⟩, .bool ypub, .slice P3 l3.length C3, .slice P4 l4.length C4, .slice P5 l5.length C5], .bool kn]) ∧ Below w.heap.size w w') := HOF
  have hl1 : lookP (xs.map Cm.ct) id = (⟨yid, ysec, ypub, l3, l4, l5⟩, kn) := hlk.symm
  have hzl : kn = false → l3 = [] := fun e => congrArg (fun c : Cm => c.red.2.2) (hzz e)
  obtain ⟨n0, hn0⟩ : ∃ n, xs.length = n := ⟨_, rfl⟩
  rw [hn0] at HOF ⊢
  have HRD : Hid (scopeP (xs.map Cm.ct) id l = if kn = false ∨ withinP (setP l) l4 = false then ([], false) else if (setP l).length = 0 then (l4, true) else (setP l, true)) := Lib.hid (by unfold scopeP; rw [hl1])
  have HST : Hid (∀ W, Below w.heap.size w W → Calls Tryz.prog 29 #[.slice P l.length C] W fun e w' => ∃ p c, e = .returned (.slice p (setP l).length c) ∧ GoodL w' (p, c, setP l) ∧ Below W.heap.size W w') := Lib.hid fun W hW => (rset_c P C l W (hx.below hW).row hx.few).mono fun e w' ⟨v, h1, h2, h3⟩ => by
    obtain ⟨p, c, rfl, h5⟩ := own_good h2 (fit_set l) (by have := setP_len l; have h6 : l.length ≤ 4194304 := hx.few; show (setP l).length ≤ _; omega)
    exact ⟨p, c, h1, h5, h3⟩
  have HWI : Hid (∀ W p c, Below w.heap.size w W → GoodL W (p, c, setP l) → Calls Tryz.prog 28 #[.slice p (setP l).length c, .slice P4 l4.length C4] W fun e w' => e = .returned (.bool (withinP (setP l) l4)) ∧ W = w') := Lib.hid fun W p c hW hs => rwithin_c p c (setP l) P4 C4 l4 W hs.row (ins_below hgd.1.sco.row hW) hs.few hgd.2.sco
  have HG4 : Hid (∀ W, Below w.heap.size w W → GoodL W (P4, C4, l4)) := Lib.hid fun W hW => (hgd.1.sco.below hW).good hgd.2.sco
  obtain ⟨rr, hrr⟩ : ∃ rr, scopeP (xs.map Cm.ct) id l = rr := ⟨_, rfl⟩
  rw [hrr] at HRD ⊢
  obtain ⟨n, hn⟩ : ∃ n, l.length = n := ⟨_, rfl⟩
  obtain ⟨n4, hn4⟩ : ∃ n, l4.length = n := ⟨_, rfl⟩
  obtain ⟨ms, hms⟩ : ∃ n, (setP l).length = n := ⟨_, rfl⟩
  rw [hn, hms] at HST
  rw [hms, hn4] at HWI
  rw [hn4] at HOF
  rw [hn]
  have HMS := Lib.hid hms
  have HN4 := Lib.hid hn4
  clear hp hg hsm hl hlk hl1 hgd hrr hzz hzl hn0 hx hn hn4 hms
  go_enter Tryz.func24, Tryz.ntmps24
  obtain ⟨wb, hwb⟩ : ∃ b, withinP (setP l) l4 = b := ⟨_, rfl⟩
  rw [hwb] at HWI HRD
  have HWB := Lib.hid hwb
  clear hwb
  cases kn with
  | false =>
    have HR : Hid (rr = ([], false)) := Lib.hid (by rw [HRD.out, if_pos (Or.inl rfl)])
    go_wp2_with (first
      | (go_at_call 14; (with_reducible refine HOF.out.mono ?_); rintro e we ⟨rfl, hbe⟩; obtain ⟨wf, wg, hVe⟩ := var_c we 32 (.string ⟨yid.toArray⟩) (.string ⟨ysec.toArray⟩) (.bool ypub) (.slice P3 l3.length C3) (.slice P4 n4 C4) (.slice P5 l5.length C5); have he1 := hVe.a; have he2 := hVe.s; obtain ⟨s0, s1, s2, s3, s4, s5⟩ := blk6 hVe.zero; obtain ⟨t0, t1, t2, t3, t4, t5⟩ := frz6 hVe.zero; obtain ⟨v0, v1, v2, v3, v4, v5⟩ := blk6 hVe.blk; have HBG := Lib.hid (bnext hbe hVe.below); have HVB := Lib.hid hVe.blk; clear hbe hVe)
      | (go_at_call 29; (with_reducible refine (HST.out _ HBG.out).mono ?_); rintro e wh ⟨p, c, rfl, hs1, hbh⟩; have HBH := Lib.hid (bnext HBG.out hbh); clear hbh hs1))
    go_ret2
    rw [HR.out]
    exact ⟨none, 0, rfl, good_nil _, HBH.out⟩
  | true =>
    cases wb with
    | false =>
      have HR : Hid (rr = ([], false)) := Lib.hid (by rw [HRD.out, if_pos (Or.inr rfl)])
      go_wp2_with (first
        | (go_at_call 14; (with_reducible refine HOF.out.mono ?_); rintro e we ⟨rfl, hbe⟩; obtain ⟨wf, wg, hVe⟩ := var_c we 32 (.string ⟨yid.toArray⟩) (.string ⟨ysec.toArray⟩) (.bool ypub) (.slice P3 l3.length C3) (.slice P4 n4 C4) (.slice P5 l5.length C5); have he1 := hVe.a; have he2 := hVe.s; obtain ⟨s0, s1, s2, s3, s4, s5⟩ := blk6 hVe.zero; obtain ⟨t0, t1, t2, t3, t4, t5⟩ := frz6 hVe.zero; obtain ⟨v0, v1, v2, v3, v4, v5⟩ := blk6 hVe.blk; have HBG := Lib.hid (bnext hbe hVe.below); have HVB := Lib.hid hVe.blk; clear hbe hVe)
        | (go_at_call 29; (with_reducible refine (HST.out _ HBG.out).mono ?_); rintro e wh ⟨p, c, rfl, hs1, hbh⟩; have HBH := Lib.hid (bnext HBG.out hbh); have HS1 := Lib.hid hs1; obtain ⟨v0, v1, v2, v3, v4, v5⟩ := blk6 (HVB.out.below hbh); clear hbh hs1)
        | (go_at_call 28; (with_reducible refine (HWI.out _ _ _ HBH.out HS1.out).mono ?_); rintro e wi ⟨rfl, rfl⟩))
      go_ret2
      rw [HR.out]
      exact ⟨none, 0, rfl, good_nil _, HBH.out⟩
    | true =>
      have HRD2 : Hid (rr = if (setP l).length = 0 then (l4, true) else (setP l, true)) := Lib.hid (by rw [HRD.out]; simp)
      by_cases h0 : ms = 0
      · have HR : Hid (rr = (l4, true)) := Lib.hid (by rw [HRD2.out, if_pos (by rw [HMS.out]; exact h0)])
        have b0 : ((ms : Int) == 0) = true := by simp [h0]
        clear h0
        go_wp2_with (first
          | (go_at_call 14; (with_reducible refine HOF.out.mono ?_); rintro e we ⟨rfl, hbe⟩; obtain ⟨wf, wg, hVe⟩ := var_c we 32 (.string ⟨yid.toArray⟩) (.string ⟨ysec.toArray⟩) (.bool ypub) (.slice P3 l3.length C3) (.slice P4 n4 C4) (.slice P5 l5.length C5); have he1 := hVe.a; have he2 := hVe.s; obtain ⟨s0, s1, s2, s3, s4, s5⟩ := blk6 hVe.zero; obtain ⟨t0, t1, t2, t3, t4, t5⟩ := frz6 hVe.zero; obtain ⟨v0, v1, v2, v3, v4, v5⟩ := blk6 hVe.blk; have HBG := Lib.hid (bnext hbe hVe.below); have HVB := Lib.hid hVe.blk; clear hbe hVe)
          | (go_at_call 29; (with_reducible refine (HST.out _ HBG.out).mono ?_); rintro e wh ⟨p, c, rfl, hs1, hbh⟩; have HBH := Lib.hid (bnext HBG.out hbh); have HS1 := Lib.hid hs1; obtain ⟨v0, v1, v2, v3, v4, v5⟩ := blk6 (HVB.out.below hbh); clear hbh hs1)
          | (go_at_call 28; (with_reducible refine (HWI.out _ _ _ HBH.out HS1.out).mono ?_); rintro e wi ⟨rfl, rfl⟩))
        go_ret2
        rw [HR.out]
        refine ⟨P4, C4, ?_, HG4.out _ HBH.out, HBH.out⟩
        rw [← HN4.out]
        rfl
      · have HR : Hid (rr = (setP l, true)) := Lib.hid (by rw [HRD2.out, if_neg (by rw [HMS.out]; exact h0)])
        have b0 : ((ms : Int) == 0) = false := by simp; omega
        clear h0
        go_wp2_with (first
          | (go_at_call 14; (with_reducible refine HOF.out.mono ?_); rintro e we ⟨rfl, hbe⟩; obtain ⟨wf, wg, hVe⟩ := var_c we 32 (.string ⟨yid.toArray⟩) (.string ⟨ysec.toArray⟩) (.bool ypub) (.slice P3 l3.length C3) (.slice P4 n4 C4) (.slice P5 l5.length C5); have he1 := hVe.a; have he2 := hVe.s; obtain ⟨s0, s1, s2, s3, s4, s5⟩ := blk6 hVe.zero; obtain ⟨t0, t1, t2, t3, t4, t5⟩ := frz6 hVe.zero; obtain ⟨v0, v1, v2, v3, v4, v5⟩ := blk6 hVe.blk; have HBG := Lib.hid (bnext hbe hVe.below); have HVB := Lib.hid hVe.blk; clear hbe hVe)
          | (go_at_call 29; (with_reducible refine (HST.out _ HBG.out).mono ?_); rintro e wh ⟨p, c, rfl, hs1, hbh⟩; have HBH := Lib.hid (bnext HBG.out hbh); have HS1 := Lib.hid hs1; obtain ⟨v0, v1, v2, v3, v4, v5⟩ := blk6 (HVB.out.below hbh); clear hbh hs1)
          | (go_at_call 28; (with_reducible refine (HWI.out _ _ _ HBH.out HS1.out).mono ?_); rintro e wi ⟨rfl, rfl⟩))
        go_ret2
        rw [HR.out]
        refine ⟨p, c, ?_, HS1.out, HBH.out⟩
        rw [← HMS.out]
        rfl
end Go.Proofs.YteihjgakhkpgnaaGreatDoor.rol
