/- RollWithin. No condition beyond what slices and texts are. -/
import Derived.Test.YteihjgakhkpgnaaGreatDoorRoP
import Derived.Test.YteihjgakhkpgnaaGreatDoorRoQ
namespace Go.Proofs.YteihjgakhkpgnaaGreatDoor.rol
open Go.RowKit
open Go.Proofs.YteihjgakhkpgnaaGreatDoor.oct Go.Proofs.YteihjgakhkpgnaaGreatDoor.ref Go.Proofs.YteihjgakhkpgnaaGreatDoor.rows Go.Proofs.YteihjgakhkpgnaaGreatDoor.rowg Go.Proofs.YteihjgakhkpgnaaGreatDoor.trn
open Go.Proofs.YteihjgakhkpgnaaGreatDoor.scp (tx senc senc_len InS ins_below ins_cell lt hasB hasB_iff Lst lval lenc GoodL FitS setP setP_mem setP_idem withinP RowA own_good fit_set setP_len rset_c rwithin_c rhas_c)

/-- clients that are handed in to a law -/
structure ArgC (w : World) (P : Option Addr) (C : Nat) (xs : List Cm) : Prop where
  row : InC w P xs
  cap : xs.length ≤ C
  each : ∀ x ∈ xs, GoodC w x
theorem ArgC.few {w : World} {P : Option Addr} {C : Nat} {xs : List Cm} (h : ArgC w P C xs) : InC w P (xs.take 70) ∧ ∀ x ∈ xs.take 70, GoodC w x := by
  refine ⟨fun h0 => ?_, fun x hx => h.each x (List.mem_of_mem_take hx)⟩
  have h1 : 0 < xs.length := by
    rw [List.length_take] at h0
    omega
  obtain ⟨b, o, hP, hc⟩ := h.row h1
  refine ⟨b, o, hP, fun i hi j hj => ?_⟩
  have hi2 : i < xs.length := by rw [List.length_take] at hi; omega
  rw [hc i hi2 j hj, List.getElem_take]
/-- what a law has of a roll that was made -/
theorem new_yes {P : Option Addr} {C : Nat} {xs : List Cm} {w : World} (hp : InC w P xs) (hg : ∀ x ∈ xs, GoodC w x) (hl : xs.length ≤ 70) (ha : allB (xs.map Cm.ct) = true) :
    Calls Tryz.prog 10 #[.slice P xs.length C] w fun e w' => ∃ g ys, e = .returned (.tuple #[.pointer (some ⟨g, 0, none⟩), .int .i64 0]) ∧ RolN w' (fun k => w.heap.size ≤ k ∧ k < w'.heap.size) (some ⟨g, 0, none⟩) ys ∧ ys.map Cm.ct = xs.map Cm.ct ∧ Sec1 ys ∧ Below w.heap.size w w' :=
  (new_c P C xs w hp hg (by omega)).mono fun e w' ⟨hb, h⟩ => by
    rcases h with ⟨_, g, ys, h1, h2, h3⟩ | ⟨h1, _⟩
    · exact ⟨g, ys, h1, Or.inr ⟨g, rfl, h2⟩, h3, sec1_of h3 (all_right ha).1, hb⟩
    · rw [ha] at h1; cases h1
theorem within_self (l : List T) : withinP l l = true := (scp.within_iff l l).2 fun _ h _ => h
theorem scope_no {l : List CT} {id : T} {a : List T} (h : (scopeP l id a).2 = false) : (scopeP l id a).1 = [] := by
  unfold scopeP at h ⊢
  split
  · rfl
  · rename_i h1
    rw [if_neg h1] at h
    split at h <;> cases h
theorem scope_again {l : List CT} {id : T} {a : List T} (hl : allB l = true) (h : (scopeP l id a).2 = true) : scopeP l id (scopeP l id a).1 = ((scopeP l id a).1, true) ∧ withinP (scopeP l id a).1 (lookP l id).1.sco = true ∧ ((setP a).length = 0 ∨ (scopeP l id a).1 = setP a) ∧ (lookP l id).2 = true := by
  unfold scopeP at h ⊢
  split at h
  · cases h
  · rename_i h1
    rw [if_neg h1]
    have hk : (lookP l id).2 = true := by
      cases hb : (lookP l id).2 with
      | true => rfl
      | false => exact absurd (Or.inl hb) h1
    have hw : withinP (setP a) (lookP l id).1.sco = true := by
      cases hb : withinP (setP a) (lookP l id).1.sco with
      | true => rfl
      | false => exact absurd (Or.inr hb) h1
    have hs : setP (lookP l id).1.sco = (lookP l id).1.sco := (right_small ((all_right hl).1 _ (look_yes hk).1)).set
    by_cases h0 : (setP a).length = 0
    · rw [if_pos h0]
      dsimp only
      refine ⟨?_, within_self _, Or.inl h0, hk⟩
      rw [hs, within_self, hk, if_neg (by simp)]
      split <;> rfl
    · rw [if_neg h0]
      dsimp only
      refine ⟨?_, hw, Or.inr rfl, hk⟩
      rw [setP_idem, hw, hk, if_neg (by simp), if_neg h0]
theorem fit_scope {l : List CT} (hl : allB l = true) (id : T) (a : List T) : FitS (scopeP l id a).1 ∧ (scopeP l id a).1.length ≤ a.length + 32 := by
  have hs := look_small hl id
  unfold scopeP
  split
  · exact ⟨(fun x hx => by cases hx), by simp⟩
  · split
    · exact ⟨fun x hx => by have := hs.2.2.2.2.2.1 x hx; omega, by have := hs.2.2.2.2.1; dsimp only; omega⟩
    · exact ⟨fit_set a, by have := setP_len a; dsimp only; omega⟩
set_option maxRecDepth 100000 in
set_option maxHeartbeats 2000000 in
theorem law_within (P : Option Addr) (C : Nat) (xs0 : List Cm) (id : T) (Q : Option Addr) (D : Nat) (a : List T) (w : World) (h0 : ArgC w P C xs0) (hid : id.length ≤ 140737488351232) (ha0 : scp.ArgL w (Q, D, a)) (hal : a.length ≤ 140737488351232) :
    Calls Tryz.prog 7 #[.slice P xs0.length C, .string ⟨id.toArray⟩, .slice Q a.length D] w fun e w' => e = .returned (.bool true) ∧ Below w.heap.size w w' := by
  obtain ⟨hp, hg⟩ := h0.few
  have HF := Lib.hid (few15_c P C xs0 w h0.cap)
  obtain ⟨xs, hxs⟩ : ∃ xs, xs0.take 70 = xs := ⟨_, rfl⟩
  rw [hxs] at hp hg HF
  have hl : xs.length ≤ 70 := by rw [← hxs, List.length_take]; omega
  obtain ⟨n0, hn0⟩ : ∃ n, xs0.length = n := ⟨_, rfl⟩
  rw [hn0] at HF ⊢
  clear hxs hn0 h0
  have HK := Lib.hid known15_c
  have HAL : Hid (∀ W, Below w.heap.size w W → Calls Tryz.prog 12 #[.slice P xs.length C] W fun e w' => e = .returned (.bool (allB (xs.map Cm.ct))) ∧ Below W.heap.size W w') := Lib.hid fun W hW => all_c P C xs W (inc_below hp hW) (fun x hx => (hg x hx).below hW) (by omega)
  have HNW : Hid (allB (xs.map Cm.ct) = true → ∀ W, Below w.heap.size w W → Calls Tryz.prog 10 #[.slice P xs.length C] W fun e w' => ∃ g ys, e = .returned (.tuple #[.pointer (some ⟨g, 0, none⟩), .int .i64 0]) ∧ RolN w' (fun k => W.heap.size ≤ k ∧ k < w'.heap.size) (some ⟨g, 0, none⟩) ys ∧ ys.map Cm.ct = xs.map Cm.ct ∧ Sec1 ys ∧ Below W.heap.size W w') := Lib.hid fun ha W hW => new_yes (inc_below hp hW) (fun x hx => (hg x hx).below hW) hl ha
  obtain ⟨n, hn⟩ : ∃ n, xs.length = n := ⟨_, rfl⟩
  rw [hn] at HF HAL HNW
  obtain ⟨ab, hab⟩ : ∃ b, allB (xs.map Cm.ct) = b := ⟨_, rfl⟩
  rw [hab] at HAL HNW
  have HAB := Lib.hid hab
  obtain ⟨m, hm⟩ : ∃ m, a.length = m := ⟨_, rfl⟩
  rw [hm] at hal ⊢
  have HM := Lib.hid hm
  have HA0 := Lib.hid ha0
  clear hp hg hl hn hab hm ha0
  have HCUR : Hid (Below w.heap.size w w) := Lib.hid (Below.refl _ _)
  go_enter Tryz.func7, Tryz.ntmps7
  cases ab with
  | false =>
    clear HNW
    go_wp2_with (first
      | (go_at_call 9; (with_reducible refine HF.out.mono ?_); rintro e w1 ⟨rfl, rfl⟩)
      | (go_at_call 11; (with_reducible refine (HK.out _).mono ?_); rintro e w2 ⟨rfl, hb2⟩; have HCUR := Lib.hid (bnext HCUR.out hb2); clear hb2)
      | (go_at_call 12; (with_reducible refine (HAL.out _ HCUR.out).mono ?_); rintro e w3 ⟨rfl, hb2⟩; have HCUR := Lib.hid (bnext HCUR.out hb2); clear hb2))
    go_ret
    exact ⟨rfl, HCUR.out⟩
  | true =>
    have HNW2 := Lib.hid (HNW.out rfl)
    clear HNW
    by_cases h100 : m ≤ 100
    · have i1 : decide ((100 : Int) < (m : Int)) = false := decide_eq_false (by omega)
      go_wp2_with (first
        | (go_at_call 9; (with_reducible refine HF.out.mono ?_); rintro e w1 ⟨rfl, rfl⟩)
        | (go_at_call 11; (with_reducible refine (HK.out _).mono ?_); rintro e w2 ⟨rfl, hb2⟩; have HCUR := Lib.hid (bnext HCUR.out hb2); clear hb2)
        | (go_at_call 12; (with_reducible refine (HAL.out _ HCUR.out).mono ?_); rintro e w3 ⟨rfl, hb2⟩; have HCUR := Lib.hid (bnext HCUR.out hb2); clear hb2))
      refine (HNW2.out _ HCUR.out).mono ?_
      rintro e w5 ⟨g, ys, rfl, hr, hys, _, hb5⟩
      have hG0 : GoodL w (Q, D, a) := ⟨HA0.out.row, HA0.out.room, HA0.out.nil, HA0.out.fit, by show a.length ≤ _; rw [HM.out]; omega⟩
      have HB5 := Lib.hid (bnext HCUR.out hb5)
      have HG5 : Hid (∀ W, Below w.heap.size w W → GoodL W (Q, D, a)) := Lib.hid fun W hW => hG0.below hW
      have HR5 := Lib.hid hr
      have HAT : Hid (allB (ys.map Cm.ct) = true) := Lib.hid (by rw [hys]; exact HAB.out)
      have HSC := Lib.hid (scope_c hr id (Q, D, a) hid (hG0.below HB5.out))
      replace HSC : Hid (Calls Tryz.prog 23 #[.pointer (some ⟨g, 0, none⟩), .string ⟨id.toArray⟩, .slice Q m D] w5 fun e w' => ListA w5 w' (scopeP (ys.map Cm.ct) id a) e) := Lib.hid (by rw [← HM.out]; exact HSC.out)
      obtain ⟨L, hL⟩ : ∃ L, ys.map Cm.ct = L := ⟨_, rfl⟩
      have HFN := Lib.hid fun W (hW : Below w5.heap.size w5 W) => find_c (hr.below hW) id hid
      have HSC2 := Lib.hid fun W (hW : Below w5.heap.size w5 W) (x : Lst) (hx : GoodL W x) => scope_c (hr.below hW) id x hid hx
      rw [hL] at HAT HSC HFN HSC2
      clear hr hys hb5 hG0 hL HNW2 HAL HF HK
      go_wp2_with fail
      refine HSC.out.mono ?_
      rintro e w6 ⟨p, c, rfl, hown, hb6⟩
      obtain ⟨s, hs⟩ : ∃ s, (scopeP L id a).1 = s := ⟨_, rfl⟩
      obtain ⟨sb, hsb⟩ : ∃ s, (scopeP L id a).2 = s := ⟨_, rfl⟩
      have hfs := fit_scope HAT.out id a
      have hno := fun e => scope_no (l := L) (id := id) (a := a) e
      have hag := fun e => scope_again (id := id) (a := a) HAT.out e
      rw [hs] at hown hfs hno hag
      rw [hsb] at hno hag
      rw [hs, hsb]
      have hG6 : GoodL w6 (p, c, s) := by
        obtain ⟨p2, c2, e2, h2⟩ := own_good hown hfs.1 (by have := hfs.2; rw [HM.out] at this; omega)
        injection e2 with q1 _ q3
        rw [q1, q3]
        exact h2
      have HG6 : Hid (∀ W, Below w6.heap.size w6 W → GoodL W (p, c, s)) := Lib.hid fun W hW => hG6.below hW
      have HB6 := Lib.hid hb6
      have HNO := Lib.hid hno
      have HAG := Lib.hid hag
      clear hown hb6 hs hsb hfs hno hag hG6 HSC HCUR
      have HFN2 := Lib.hid (HFN.out w6 HB6.out)
      go_wp2_with fail
      refine HFN2.out.mono ?_
      rintro e w7 ⟨y, he, hyc, hyo, hb7⟩
      obtain ⟨id2, sec2, pub2, ⟨P3, C3, l3⟩, ⟨P4, C4, l4⟩, ⟨P5, C5, l5⟩⟩ := y
      replace he : e = .returned (.tuple #[.agg #[.string ⟨id2.toArray⟩, .string ⟨sec2.toArray⟩, .bool pub2, .slice P3 l3.length C3, .slice P4 l4.length C4, .slice P5 l5.length C5], .bool (lookP L id).2]) := he
      subst he
      have hyc2 : (lookP L id).1.sco = l4 := by rw [← hyc]; rfl
      have hls := look_small HAT.out id
      rw [hyc2] at hls
      have hG7 : GoodL w7 (P4, C4, l4) := (own_LL hyo.sco (fun s hs => by have := hls.2.2.2.2.2.1 s hs; omega) (by have := hls.2.2.2.2.1; show l4.length ≤ _; omega)).good (by have := hls.2.2.2.2.1; show l4.length ≤ _; omega)
      obtain ⟨w8, w9, hV⟩ := var_c w7 32 (.string ⟨id2.toArray⟩) (.string ⟨sec2.toArray⟩) (.bool pub2) (.slice P3 l3.length C3) (.slice P4 l4.length C4) (.slice P5 l5.length C5)
      have hv1 := hV.a
      have hv2 := hV.s
      obtain ⟨s0, s1, s2, s3, s4, s5⟩ := blk6 hV.zero
      obtain ⟨t0, t1, t2, t3, t4, t5⟩ := frz6 hV.zero
      have HB9 : Hid (Below w6.heap.size w6 w9) := Lib.hid (bnext hb7 hV.below)
      have HGL : Hid (∀ W, Below w9.heap.size w9 W → GoodL W (P4, C4, l4)) := Lib.hid fun W hW => (hG7.below hV.below).below hW
      have HVB : Hid (∀ W, Below w9.heap.size w9 W → Blk W w7.heap.size 32 [.string ⟨id2.toArray⟩, .string ⟨sec2.toArray⟩, .bool pub2, .slice P3 l3.length C3, .slice P4 l4.length C4, .slice P5 l5.length C5]) := Lib.hid fun W hW => hV.blk.below hW
      have HYC2 := Lib.hid hyc2
      have HCUR : Hid (Below w9.heap.size w9 w9) := Lib.hid (Below.refl _ _)
      have HBW : Hid (∀ W, Below w9.heap.size w9 W → Below w.heap.size w W) := Lib.hid fun W hW => bnext (bnext (bnext HB5.out HB6.out) HB9.out) hW
      obtain ⟨sl, hsl⟩ : ∃ n, s.length = n := ⟨_, rfl⟩
      have HSL := Lib.hid hsl
      clear hyc hyo hb7 hyc2 hls hG7 hV HFN HFN2
      cases sb with
      | false =>
        have hs0 : s = [] := HNO.out rfl
        have hs00 : sl = 0 := by rw [← hsl, hs0]; rfl
        rw [hsl]
        have b0 : ((sl : Int) == 0) = true := by simp [hs00]
        clear hs0 hs00 hsl
        go_wp2_with fail
        go_ret
        exact ⟨rfl, HBW.out _ HCUR.out⟩
      | true =>
        obtain ⟨g1, g2, g3, g4⟩ := HAG.out rfl
        rw [hsl]
        rw [HYC2.out] at g2
        have HL2 := Lib.hid g4
        rw [g4]
        have HSCA : Hid (∀ W, Below w9.heap.size w9 W → Calls Tryz.prog 23 #[.pointer (some ⟨g, 0, none⟩), .string ⟨id.toArray⟩, .slice p sl c] W fun e w' => ∃ p2 c2, e = .returned (.tuple #[.slice p2 sl c2, .bool true]) ∧ GoodL w' (p2, c2, s) ∧ Below W.heap.size W w') := Lib.hid fun W hW => by
          have hx := HG6.out W (bnext HB9.out hW)
          have h := HSC2.out W (bnext (bnext HB6.out HB9.out) hW) (p, c, s) hx
          rw [← HSL.out]
          refine h.mono fun e w' ⟨p2, c2, q1, q2, q3⟩ => ?_
          rw [show scopeP L id (p, c, s).2.2 = (s, true) from g1] at q1 q2
          dsimp only at q1 q2
          obtain ⟨p3, c3, e2, h2⟩ := own_good q2 hx.fit hx.few
          injection e2 with r1 _ r3
          dsimp only at r1 r3
          rw [← r1, ← r3] at h2
          exact ⟨p2, c2, q1, h2, q3⟩
        have HWI : Hid (∀ W, Below w9.heap.size w9 W → Calls Tryz.prog 28 #[.slice p sl c, .slice P4 l4.length C4] W fun e w' => e = .returned (.bool true) ∧ W = w') := Lib.hid fun W hW => by
          have hx := HG6.out W (bnext HB9.out hW)
          have hy := HGL.out W hW
          have h := rwithin_c p c s P4 C4 l4 W hx.row hy.row hx.few hy.few
          rw [g2, HSL.out] at h
          exact h
        have HST : Hid (∀ W, Below w9.heap.size w9 W → Calls Tryz.prog 29 #[.slice Q m D] W fun e w' => ∃ p c, e = .returned (.slice p (setP a).length c) ∧ GoodL w' (p, c, setP a) ∧ Below W.heap.size W w') := Lib.hid fun W hW => by
          have hx := HG5.out W (HBW.out W hW)
          have h := rset_c Q D a W hx.row hx.few
          rw [HM.out] at h
          refine h.mono fun e w' ⟨v, h1, h2, h3⟩ => ?_
          obtain ⟨p, c, rfl, h5⟩ := own_good h2 (fit_set a) (by have := setP_len a; have h6 : a.length ≤ 4194304 := hx.few; show (setP a).length ≤ _; omega)
          exact ⟨p, c, h1, h5, h3⟩
        have HSM : Hid (∀ W x y, GoodL W x → GoodL W y → x.2.2 = y.2.2 → Calls Tryz.prog 25 #[lval x, lval y] W fun e w' => e = .returned (.bool true) ∧ Below W.heap.size W w') := Lib.hid fun W x y hx hy e => (tsame_l hx.row hy.row (by have := hx.few; omega) (by have := hy.few; omega)).mono fun e w' ⟨q1, q2⟩ => ⟨by rw [q1, decide_eq_true (by assumption)], q2⟩
        have HG3 := Lib.hid g3
        obtain ⟨ms, hms⟩ : ∃ n, (setP a).length = n := ⟨_, rfl⟩
        have HMS := Lib.hid hms
        rw [hms] at HST
        clear g1 g2 g3 g4 hsl hms HAG HNO HSC2
        by_cases hz : ms = 0
        · have b0 : ((ms : Int) == 0) = true := by simp [hz]
          clear hz
          go_wp2_with (first
            | (go_at_call 23; (with_reducible refine (HSCA.out _ HCUR.out).mono ?_); rintro e wA ⟨p2, c2, rfl, hg2, hbA⟩; have HCUR := Lib.hid (bnext HCUR.out hbA); have HGA := Lib.hid hg2; have HBA := Lib.hid (Below.refl wA.heap.size wA); obtain ⟨z0, z1, z2, z3, z4, z5⟩ := blk6 (HVB.out wA HCUR.out); clear hbA hg2)
            | (go_at_call 28; (with_reducible refine (HWI.out _ HCUR.out).mono ?_); rintro e wB ⟨rfl, rfl⟩)
            | (go_at_call 29; (with_reducible refine (HST.out _ HCUR.out).mono ?_); rintro e wC ⟨p3, c3, rfl, hg3, hbC⟩; have HCUR := Lib.hid (bnext HCUR.out hbC); have HBA := Lib.hid (bnext HBA.out hbC); clear hbC hg3)
            | (go_at_call 25; (refine (show Calls _ _ #[.slice p2 sl c2, .slice p sl c] _ _ from by rw [← HSL.out]; exact HSM.out _ (p2, c2, s) (p, c, s) (HGA.out.below HBA.out) (HG6.out _ (bnext HB9.out HCUR.out)) rfl).mono ?_); rintro e wD ⟨rfl, hbD⟩; have HCUR := Lib.hid (bnext HCUR.out hbD); clear hbD))
          go_ret
          exact ⟨rfl, HBW.out _ HCUR.out⟩
        · have hse : s = setP a := HG3.out.resolve_left (by rw [HMS.out]; exact hz)
          have b0 : ((ms : Int) == 0) = false := by simp; omega
          have HSE := Lib.hid hse
          have HSS : Hid (sl = ms) := Lib.hid (by rw [← HSL.out, ← HMS.out, HSE.out])
          clear hz hse
          have HSM2 : Hid (∀ W p3 c3, Below w9.heap.size w9 W → GoodL W (p3, c3, setP a) → Calls Tryz.prog 25 #[.slice p sl c, .slice p3 ms c3] W fun e w' => e = .returned (.bool true) ∧ Below W.heap.size W w') := Lib.hid fun W p3 c3 hW hg => by
            have h := HSM.out W (p, c, s) (p3, c3, setP a) (HG6.out W (bnext HB9.out hW)) hg HSE.out
            rw [← HSL.out, ← HMS.out]
            exact h
          go_wp2_with (first
            | (go_at_call 23; (with_reducible refine (HSCA.out _ HCUR.out).mono ?_); rintro e wA ⟨p2, c2, rfl, hg2, hbA⟩; have HCUR := Lib.hid (bnext HCUR.out hbA); have HGA := Lib.hid hg2; have HBA := Lib.hid (Below.refl wA.heap.size wA); obtain ⟨z0, z1, z2, z3, z4, z5⟩ := blk6 (HVB.out wA HCUR.out); clear hbA hg2)
            | (go_at_call 28; (with_reducible refine (HWI.out _ HCUR.out).mono ?_); rintro e wB ⟨rfl, rfl⟩)
            | (go_at_call 29; (with_reducible refine (HST.out _ HCUR.out).mono ?_); rintro e wC ⟨p3, c3, rfl, hg3, hbC⟩; have HCUR := Lib.hid (bnext HCUR.out hbC); have HBA := Lib.hid (bnext HBA.out hbC); have HGC := Lib.hid hg3; clear hbC hg3)
            | (go_at_call_of 25 (Value.slice p3 ms c3); (with_reducible refine (HSM2.out _ _ _ HCUR.out HGC.out).mono ?_); rintro e wE ⟨rfl, hbD⟩; have HCUR := Lib.hid (bnext HCUR.out hbD); have HBA := Lib.hid (bnext HBA.out hbD); clear hbD)
            | (go_at_call 25; (refine (show Calls _ _ #[.slice p2 sl c2, .slice p sl c] _ _ from by rw [← HSL.out]; exact HSM.out _ (p2, c2, s) (p, c, s) (HGA.out.below HBA.out) (HG6.out _ (bnext HB9.out HCUR.out)) rfl).mono ?_); rintro e wD ⟨rfl, hbD⟩; have HCUR := Lib.hid (bnext HCUR.out hbD); clear hbD))
          go_ret
          exact ⟨rfl, HBW.out _ HCUR.out⟩
    · have i1 : decide ((100 : Int) < (m : Int)) = true := decide_eq_true (by omega)
      go_wp2_with (first
        | (go_at_call 9; (with_reducible refine HF.out.mono ?_); rintro e w1 ⟨rfl, rfl⟩)
        | (go_at_call 11; (with_reducible refine (HK.out _).mono ?_); rintro e w2 ⟨rfl, hb2⟩; have HCUR := Lib.hid (bnext HCUR.out hb2); clear hb2)
        | (go_at_call 12; (with_reducible refine (HAL.out _ HCUR.out).mono ?_); rintro e w3 ⟨rfl, hb2⟩; have HCUR := Lib.hid (bnext HCUR.out hb2); clear hb2))
      go_ret
      exact ⟨rfl, HCUR.out⟩
end Go.Proofs.YteihjgakhkpgnaaGreatDoor.rol
