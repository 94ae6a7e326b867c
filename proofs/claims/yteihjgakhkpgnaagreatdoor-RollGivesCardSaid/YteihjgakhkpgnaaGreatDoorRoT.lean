/- RollGives. No condition beyond what slices and texts are. -/
import Derived.Test.YteihjgakhkpgnaaGreatDoorRoOp
import Derived.Test.YteihjgakhkpgnaaGreatDoorRoS
namespace Go.Proofs.YteihjgakhkpgnaaGreatDoor.rol
open Go.RowKit
open Go.Proofs.YteihjgakhkpgnaaGreatDoor.oct Go.Proofs.YteihjgakhkpgnaaGreatDoor.ref Go.Proofs.YteihjgakhkpgnaaGreatDoor.rows Go.Proofs.YteihjgakhkpgnaaGreatDoor.rowg Go.Proofs.YteihjgakhkpgnaaGreatDoor.trn
open Go.Proofs.YteihjgakhkpgnaaGreatDoor.scp (tx senc senc_len InS ins_below ins_cell lt hasB hasB_iff Lst lval lenc GoodL FitS setP setP_mem setP_idem withinP RowA own_good fit_set setP_len rset_c rwithin_c rhas_c)

theorem small_of {xs : List Cm} (h : allB (xs.map Cm.ct) = true) : ∀ x ∈ xs, Small x.ct := fun _ hx => right_small ((all_right h).1 _ (List.mem_map_of_mem hx))
set_option maxRecDepth 100000 in
set_option maxHeartbeats 4000000 in
theorem law_gives (P : Option Addr) (C : Nat) (xs0 : List Cm) (id uri : T) (Q : Option Addr) (D : Nat) (a : List T) (w : World) (h0 : ArgC w P C xs0) (hid : id.length ≤ 140737488351232) (huri : uri.length ≤ 140737488351232) (ha0 : scp.ArgL w (Q, D, a)) (hal : a.length ≤ 140737488351232) :
    Calls Tryz.prog 6 #[.slice P xs0.length C, .string ⟨id.toArray⟩, .string ⟨uri.toArray⟩, .slice Q a.length D] w fun e w' => e = .returned (.bool true) ∧ Below w.heap.size w w' := by
  obtain ⟨hp, hg⟩ := h0.few
  have HF := Lib.hid (few15_c P C xs0 w h0.cap)
  obtain ⟨xs, hxs⟩ : ∃ xs, xs0.take 70 = xs := ⟨_, rfl⟩
  rw [hxs] at hp hg HF
  have hl : xs.length ≤ 70 := by rw [← hxs, List.length_take]; omega
  obtain ⟨n0, hn0⟩ : ∃ n, xs0.length = n := ⟨_, rfl⟩
  rw [hn0] at HF ⊢
  clear hxs hn0 h0
  have HK := Lib.hid known15_c
  have HAL : Hid (∀ W, Below w.heap.size w W → Calls Tryz.prog 12 #[.slice P xs.length C] W fun e w' => e = .returned (.bool (allB (xs.map Cm.ct))) ∧ Below W.heap.size W w') := Lib.hid fun W hW => all_c P C xs W (inc_below hp hW) (fun x hx => (hg x hx).below hW) (by omega)
  have HNW : Hid (allB (xs.map Cm.ct) = true → ∀ W, Below w.heap.size w W → Calls Tryz.prog 10 #[.slice P xs.length C] W fun e w' => ∃ g ys, e = .returned (.tuple #[.pointer (some ⟨g, 0, none⟩), .int .i64 0]) ∧ RolN w' (fun k => W.heap.size ≤ k ∧ k < w'.heap.size) (some ⟨g, 0, none⟩) ys ∧ ys.map Cm.ct = xs.map Cm.ct ∧ Sec1 ys ∧ Below W.heap.size W w') := Lib.hid fun ha W hW => new_yes (inc_below hp hW) (fun x hx => (hg x hx).below hW) hl ha
  obtain ⟨L, hL⟩ : ∃ L, xs.map Cm.ct = L := ⟨_, rfl⟩
  have HRF : Hid (∀ W, Below w.heap.size w W → Calls Tryz.prog 14 #[.slice P xs.length C, .string ⟨id.toArray⟩] W fun e w' => e = .returned (.tuple #[cval (lookM xs id).1, .bool (lookM xs id).2]) ∧ Below W.heap.size W w') := Lib.hid fun W hW => rfind_c P C xs id W (inc_below hp hW) (by omega)
  have HRR : Hid (allB L = true → ∀ W, Below w.heap.size w W → Calls Tryz.prog 22 #[.slice P xs.length C, .string ⟨id.toArray⟩, .string ⟨uri.toArray⟩] W fun e w' => e = .returned (.tuple #[.string ⟨(redirP L id uri).1.toArray⟩, .bool (redirP L id uri).2]) ∧ Below W.heap.size W w') := Lib.hid fun ha W hW => by
    rw [← hL] at ha ⊢
    exact rredirect_c P C xs id uri W (inc_below hp hW) (fun x hx => (hg x hx).below hW) (small_of ha) (by omega)
  have HRS : Hid (allB L = true → ∀ W, Below w.heap.size w W → GoodL W (Q, D, a) → Calls Tryz.prog 24 #[.slice P xs.length C, .string ⟨id.toArray⟩, .slice Q a.length D] W fun e w' => ListG W w' (scopeP L id a) e) := Lib.hid fun ha W hW hx => by
    rw [← hL] at ha ⊢
    exact rscope_c P C xs id Q D a W (inc_below hp hW) (fun x hx => (hg x hx).below hW) (small_of ha) (by omega) hx
  have hlk := lookM_P xs id
  have hgd : allB L = true → GoodC w (lookM xs id).1 ∧ Few (lookM xs id).1 := fun ha => lookm_good hg (small_of (by rw [hL]; exact ha)) id
  obtain ⟨kn, hkn⟩ : ∃ kn, (lookM xs id).2 = kn := ⟨_, rfl⟩
  obtain ⟨y, hy⟩ : ∃ y, (lookM xs id).1 = y := ⟨_, rfl⟩
  rw [hkn, hy] at HRF hlk
  rw [hy] at hgd
  clear hkn hy
  obtain ⟨yid, ysec, ypub, ⟨P3, C3, l3⟩, ⟨P4, C4, l4⟩, ⟨P5, C5, l5⟩⟩ := y
  replace HRF : Hid (∀ W, Below w.heap.size w W → Calls Tryz.prog 14 #[.slice P xs.length C, .string ⟨id.toArray⟩] W fun e w' => e = .returned (.tuple #[.agg #[.string ⟨yid.toArray⟩, .string ⟨ysec.toArray⟩, .bool ypub, .slice P3 l3.length C3, .slice P4 l4.length C4, .slice P5 l5.length C5], .bool kn]) ∧ Below W.heap.size W w') := HRF
  rw [hL] at hlk
  have hl1 : lookP L id = (⟨yid, ysec, ypub, l3, l4, l5⟩, kn) := hlk.symm
  have HHS : Hid (allB L = true → ∀ W (g : ByteArray), Below w.heap.size w W → Calls Tryz.prog 27 #[.slice P5 l5.length C5, .string g] W fun e w' => e = .returned (.bool (hasB l5 g.data.toList)) ∧ W = w') := Lib.hid fun ha W g hW => by
    have h := rhas_c P5 C5 l5 g.data.toList W (ins_below (hgd ha).1.gra.row hW) (by have h2 : l5.length ≤ 4194304 := (hgd ha).2.gra; omega)
    rw [show (tx g.data.toList) = .string g from by unfold tx; rw [s_of]] at h
    exact h
  have HL1 := Lib.hid hl1
  obtain ⟨n, hn⟩ : ∃ n, xs.length = n := ⟨_, rfl⟩
  rw [hn] at HF HAL HNW HRF HRR HRS
  rw [hL] at HNW HAL
  obtain ⟨ab, hab⟩ : ∃ b, allB L = b := ⟨_, rfl⟩
  rw [hab] at HAL HNW HRR HRS HHS
  have HAB := Lib.hid hab
  obtain ⟨m, hm⟩ : ∃ m, a.length = m := ⟨_, rfl⟩
  rw [hm] at hal HRS ⊢
  have HM := Lib.hid hm
  have HA0 := Lib.hid ha0
  clear hp hg hl hn hab hm ha0 hL hlk hgd hl1
  have HCUR : Hid (Below w.heap.size w w) := Lib.hid (Below.refl _ _)
  go_enter Tryz.func6, Tryz.ntmps6
  cases ab with
  | false =>
    clear HNW
    go_wp2_with (first
      | (go_at_call 9; (with_reducible refine HF.out.mono ?_); rintro e w1 ⟨rfl, rfl⟩)
      | (go_at_call 11; (with_reducible refine (HK.out _).mono ?_); rintro e w2 ⟨rfl, hb2⟩; have HCUR := Lib.hid (bnext HCUR.out hb2); clear hb2)
      | (go_at_call 12; (with_reducible refine (HAL.out _ HCUR.out).mono ?_); rintro e w3 ⟨rfl, hb2⟩; have HCUR := Lib.hid (bnext HCUR.out hb2); clear hb2))
    go_ret
    exact ⟨rfl, HCUR.out⟩
  | true =>
    have HNW2 := Lib.hid (HNW.out rfl)
    have HRR2 := Lib.hid (HRR.out rfl)
    have HRS2 := Lib.hid (HRS.out rfl)
    have HHS2 := Lib.hid (HHS.out rfl)
    clear HNW HRR HRS HHS
    by_cases h100 : m ≤ 100
    · have i1 : decide ((100 : Int) < (m : Int)) = false := decide_eq_false (by omega)
      go_wp2_with (first
        | (go_at_call 9; (with_reducible refine HF.out.mono ?_); rintro e w1 ⟨rfl, rfl⟩)
        | (go_at_call 11; (with_reducible refine (HK.out _).mono ?_); rintro e w2 ⟨rfl, hb2⟩; have HCUR := Lib.hid (bnext HCUR.out hb2); clear hb2)
        | (go_at_call 12; (with_reducible refine (HAL.out _ HCUR.out).mono ?_); rintro e w3 ⟨rfl, hb2⟩; have HCUR := Lib.hid (bnext HCUR.out hb2); clear hb2))
      refine (HNW2.out _ HCUR.out).mono ?_
      rintro e w5 ⟨g, ys, rfl, hr, hys, _, hb5⟩
      have hG0 : GoodL w (Q, D, a) := ⟨HA0.out.row, HA0.out.room, HA0.out.nil, HA0.out.fit, by show a.length ≤ _; rw [HM.out]; omega⟩
      have HB5 := Lib.hid (bnext HCUR.out hb5)
      have HBW : Hid (∀ W, Below w5.heap.size w5 W → Below w.heap.size w W) := Lib.hid fun W hW => bnext HB5.out hW
      have HRE : Hid (∀ W, Below w5.heap.size w5 W → Calls Tryz.prog 21 #[.pointer (some ⟨g, 0, none⟩), .string ⟨id.toArray⟩, .string ⟨uri.toArray⟩] W fun e w' => e = .returned (.tuple #[.string ⟨(redirP L id uri).1.toArray⟩, .bool (redirP L id uri).2]) ∧ Below W.heap.size W w') := Lib.hid fun W hW => by
        rw [← hys]; exact redirect_c (hr.below hW) id uri hid huri
      have HSC : Hid (∀ W, Below w5.heap.size w5 W → Calls Tryz.prog 23 #[.pointer (some ⟨g, 0, none⟩), .string ⟨id.toArray⟩, .slice Q m D] W fun e w' => ListG W w' (scopeP L id a) e) := Lib.hid fun W hW => by
        have h := scope_c (hr.below hW) id (Q, D, a) hid (hG0.below (HBW.out W hW))
        rw [hys] at h
        rw [← HM.out]
        refine h.mono fun e w' ⟨p, c, q1, q2, q3⟩ => ⟨p, c, q1, ?_, q3⟩
        have hfs := fit_scope HAB.out id a
        obtain ⟨p2, c2, e2, h2⟩ := own_good q2 hfs.1 (by have := hfs.2; rw [HM.out] at this; show (scopeP L id a).1.length ≤ _; omega)
        injection e2 with r1 _ r3
        rw [r1, r3]
        exact h2
      have HRS3 : Hid (∀ W, Below w5.heap.size w5 W → Calls Tryz.prog 24 #[.slice P n C, .string ⟨id.toArray⟩, .slice Q m D] W fun e w' => ListG W w' (scopeP L id a) e) := Lib.hid fun W hW => HRS2.out W (HBW.out W hW) (hG0.below (HBW.out W hW))
      have HRR3 : Hid (∀ W, Below w5.heap.size w5 W → Calls Tryz.prog 22 #[.slice P n C, .string ⟨id.toArray⟩, .string ⟨uri.toArray⟩] W fun e w' => e = .returned (.tuple #[.string ⟨(redirP L id uri).1.toArray⟩, .bool (redirP L id uri).2]) ∧ Below W.heap.size W w') := Lib.hid fun W hW => HRR2.out W (HBW.out W hW)
      have HRF3 : Hid (∀ W, Below w5.heap.size w5 W → Calls Tryz.prog 14 #[.slice P n C, .string ⟨id.toArray⟩] W fun e w' => e = .returned (.tuple #[.agg #[.string ⟨yid.toArray⟩, .string ⟨ysec.toArray⟩, .bool ypub, .slice P3 l3.length C3, .slice P4 l4.length C4, .slice P5 l5.length C5], .bool kn]) ∧ Below W.heap.size W w') := Lib.hid fun W hW => HRF.out W (HBW.out W hW)
      have HHS3 : Hid (∀ W (g : ByteArray), Below w5.heap.size w5 W → Calls Tryz.prog 27 #[.slice P5 l5.length C5, .string g] W fun e w' => e = .returned (.bool (hasB l5 g.data.toList)) ∧ W = w') := Lib.hid fun W g hW => HHS2.out W g (HBW.out W hW)
      have HMY : Hid (∀ W (b : ByteArray), Below w5.heap.size w5 W → Calls Tryz.prog 26 #[.pointer (some ⟨g, 0, none⟩), .string ⟨id.toArray⟩, .string b] W fun e w' => e = .returned (.bool (hasB l5 b.data.toList)) ∧ Below W.heap.size W w') := Lib.hid fun W b hW => by
        have h := may_c (hr.below hW) id b.data.toList hid
        rw [hys, HL1.out, s_of] at h
        exact h
      obtain ⟨⟨u, ub⟩, hru⟩ : ∃ r, redirP L id uri = r := ⟨_, rfl⟩
      obtain ⟨⟨s, sb⟩, hsu⟩ : ∃ r, scopeP L id a = r := ⟨_, rfl⟩
      rw [hru] at HRE HRR3
      rw [hsu] at HSC HRS3
      unfold ListG at HSC HRS3
      dsimp only at HRE HRR3 HSC HRS3
      have HSM : Hid (∀ W p c p2 c2, GoodL W (p, c, s) → GoodL W (p2, c2, s) → Calls Tryz.prog 25 #[.slice p s.length c, .slice p2 s.length c2] W fun e w' => e = .returned (.bool true) ∧ Below W.heap.size W w') := Lib.hid fun W p c p2 c2 hx hy => (tsame_l hx.row hy.row (by have := hx.few; omega) (by have := hy.few; omega)).mono fun e w' ⟨q1, q2⟩ => ⟨by rw [q1, decide_eq_true rfl], q2⟩
      obtain ⟨f, hf⟩ : ∃ f : ByteArray → Bool, (fun b => hasB l5 b.data.toList) = f := ⟨_, rfl⟩
      have HHS4 : Hid (∀ W (g : ByteArray), Below w5.heap.size w5 W → Calls Tryz.prog 27 #[.slice P5 l5.length C5, .string g] W fun e w' => e = .returned (.bool (f g)) ∧ W = w') := Lib.hid (by rw [← hf]; exact HHS3.out)
      have HMY2 : Hid (∀ W (b : ByteArray), Below w5.heap.size w5 W → Calls Tryz.prog 26 #[.pointer (some ⟨g, 0, none⟩), .string ⟨id.toArray⟩, .string b] W fun e w' => e = .returned (.bool (f b)) ∧ Below W.heap.size W w') := Lib.hid (by rw [← hf]; exact HMY.out)
      clear hr hys hb5 hG0 hru hsu hf HHS3 HMY HNW2 HAL HF HK HRS2 HRR2 HRF HHS2
      have HCUR : Hid (Below w5.heap.size w5 w5) := Lib.hid (Below.refl _ _)
      go_wp2_with (first
        | (go_at_call 21; (with_reducible refine (HRE.out _ HCUR.out).mono ?_); rintro e w6 ⟨rfl, hb6⟩; have HCUR := Lib.hid (bnext HCUR.out hb6); clear hb6)
        | (go_at_call 22; (with_reducible refine (HRR3.out _ HCUR.out).mono ?_); rintro e w7 ⟨rfl, hb7⟩; have HCUR := Lib.hid (bnext HCUR.out hb7); clear hb7)
        | (go_at_call 23; (with_reducible refine (HSC.out _ HCUR.out).mono ?_); rintro e w8 ⟨p1, c1, rfl, hg1, hb8⟩; have HCUR := Lib.hid (bnext HCUR.out hb8); have HG1 := Lib.hid hg1; have HU1 := Lib.hid (Below.refl w8.heap.size w8); clear hb8 hg1)
        | (go_at_call 24; (with_reducible refine (HRS3.out _ HCUR.out).mono ?_); rintro e w9 ⟨p2, c2, rfl, hg2, hb9⟩; have HCUR := Lib.hid (bnext HCUR.out hb9); have HG1 := Lib.hid (HG1.out.below hb9); have HG2 := Lib.hid hg2; clear hb9 hg2)
        | (go_at_call 14; (with_reducible refine (HRF3.out _ HCUR.out).mono ?_); rintro e we ⟨rfl, hbe⟩; obtain ⟨wf, wg, hVe⟩ := var_c we 32 (.string ⟨yid.toArray⟩) (.string ⟨ysec.toArray⟩) (.bool ypub) (.slice P3 l3.length C3) (.slice P4 l4.length C4) (.slice P5 l5.length C5); have he1 := hVe.a; have he2 := hVe.s; obtain ⟨s0, s1, s2, s3, s4, s5⟩ := blk6 hVe.zero; obtain ⟨t0, t1, t2, t3, t4, t5⟩ := frz6 hVe.zero; obtain ⟨v0, v1, v2, v3, v4, v5⟩ := blk6 hVe.blk; have HBE := Lib.hid (bnext hbe hVe.below); have HCUR := Lib.hid (bnext HCUR.out HBE.out); have HG1 := Lib.hid (HG1.out.below HBE.out); have HG2 := Lib.hid (HG2.out.below HBE.out); have HVB := Lib.hid hVe.blk; clear hbe hVe))
      have CS : Hid (∀ y : After wg, Calls Tryz.prog 25 #[.slice p1 s.length c1, .slice p2 s.length c2] y.v fun e w'' => e = .returned (.bool true) ∧ ∃ z : After wg, w'' = z.v) := Lib.hid fun y => after_of y (HSM.out y.v _ _ _ _ (HG1.out.below y.below) (HG2.out.below y.below))
      have CM : Hid (∀ (b : ByteArray) (y : After wg), Calls Tryz.prog 26 #[.pointer (some ⟨g, 0, none⟩), .string ⟨id.toArray⟩, .string b] y.v fun e w'' => e = .returned (.bool (f b)) ∧ ∃ z : After wg, w'' = z.v) := Lib.hid fun b y => after_of y (HMY2.out y.v b (bnext HCUR.out y.below))
      have CH : Hid (∀ (b : ByteArray) (y : After wg), Calls Tryz.prog 27 #[.slice P5 l5.length C5, .string b] y.v fun e w'' => e = .returned (.bool (f b)) ∧ ∃ z : After wg, w'' = z.v) := Lib.hid fun b y => after_same y (HHS4.out y.v b (bnext HCUR.out y.below))
      have e5 : ∀ y : After wg, y.v.cell? ⟨we.heap.size, 5, none⟩ = some (.slice P5 l5.length C5) := fun y => (blk6 (HVB.out.below y.below)).2.2.2.2.2
      clear HRE HRR3 HSC HRS3 HRF3 s0 s1 s2 s3 s4 s5 t0 t1 t2 t3 t4 t5 he1 he2 HBE HU1 v0 v1 v2 v3 v4 v5 HVB HG1 HG2 HSM HMY2 HHS4
      refine wp_region_after (by kernel_rfl) (by kernel_rfl) ?_
      repeat (go_big_quiet_step (first
        | (rename_i y; go_at_call 25; with_reducible exact CS.out y)
        | (rename_i y; go_at_call 26; with_reducible exact CM.out _ y)
        | (rename_i y; go_at_call 27; with_reducible exact CH.out _ y)))
      refine wpQuiet_nil ?_
      rintro ⟨wq, hq⟩
      dsimp only
      have HQ := Lib.hid (bnext HCUR.out hq)
      clear hq e5
      go_wp2_with fail
      go_ret
      exact ⟨rfl, HBW.out _ HQ.out⟩
    · have i1 : decide ((100 : Int) < (m : Int)) = true := decide_eq_true (by omega)
      go_wp2_with (first
        | (go_at_call 9; (with_reducible refine HF.out.mono ?_); rintro e w1 ⟨rfl, rfl⟩)
        | (go_at_call 11; (with_reducible refine (HK.out _).mono ?_); rintro e w2 ⟨rfl, hb2⟩; have HCUR := Lib.hid (bnext HCUR.out hb2); clear hb2)
        | (go_at_call 12; (with_reducible refine (HAL.out _ HCUR.out).mono ?_); rintro e w3 ⟨rfl, hb2⟩; have HCUR := Lib.hid (bnext HCUR.out hb2); clear hb2))
      go_ret
      exact ⟨rfl, HCUR.out⟩
theorem g_gives (P : Option Addr) (C : Nat) (xs : List Cm) (s u : ByteArray) (Q : Option Addr) (D : Nat) (a : List T) (w : World) (hp : InC w P xs) (hc : xs.length ≤ C) (hg : ∀ x ∈ xs, GoodC w x) (hs : s.size ≤ 140737488351232) (hu : u.size ≤ 140737488351232) (ha : LL w (Q, D, a)) :
    Calls Tryz.prog 6 #[.slice P xs.length C, .string s, .string u, .slice Q a.length D] w fun e w' => e = .returned (.bool true) ∧ Below w.heap.size w w' := by
  have h := law_gives P C xs s.data.toList u.data.toList Q D a w ⟨hp, hc, hg⟩ (by rw [Array.length_toList]; exact hs) (by rw [Array.length_toList]; exact hu) ⟨ha.row, ha.room, ha.nil, ha.fit⟩ ha.reach
  rw [s_of, s_of] at h
  exact h
end Go.Proofs.YteihjgakhkpgnaaGreatDoor.rol
