/- RingOwns. Condition: package variables (RT). -/
import Derived.Test.YtkababeeikhifaaDoorRiN
namespace Go.Proofs.YtkababeeikhifaaDoor.rng
open Go.RowKit
open Go.Proofs.YtkababeeikhifaaDoor.oct Go.Proofs.YtkababeeikhifaaDoor.ref Go.Proofs.YtkababeeikhifaaDoor.rows Go.Proofs.YtkababeeikhifaaDoor.rowg Go.Proofs.YtkababeeikhifaaDoor.trn
open Go.Proofs.YtkababeeikhifaaDoor.scp (tx senc senc_len InS ins_below ins_cell lt)

def fewN (n : Int) : Int := if 6 < n ∧ n ≤ 64 then 6 else n
theorem few_c (n : Int) (w : World) : Calls Tryd.prog 8 #[.int .i64 n] w fun e w' => e = .returned (.int .i64 (fewN n)) ∧ w = w' := by
  unfold fewN
  by_cases h1 : 6 < n
  · by_cases h2 : n ≤ 64
    · rw [if_pos ⟨h1, h2⟩]
      have i1 : decide (n > 6) = true := decide_eq_true h1
      have i2 : decide (n ≤ 64) = true := decide_eq_true h2
      go_enter Tryd.func8, Tryd.ntmps8
      go_wp2_with fail
      go_ret
      exact ⟨rfl, rfl⟩
    · rw [if_neg (fun h => h2 h.2)]
      have i1 : decide (n > 6) = true := decide_eq_true h1
      have i2 : decide (n ≤ 64) = false := decide_eq_false h2
      go_enter Tryd.func8, Tryd.ntmps8
      go_wp2_with fail
      go_ret
      exact ⟨rfl, rfl⟩
  · rw [if_neg (fun h => h1 h.1)]
    have i1 : decide (n > 6) = false := decide_eq_false h1
    go_enter Tryd.func8, Tryd.ntmps8
    go_wp2_with fail
    go_ret
    exact ⟨rfl, rfl⟩
set_option maxRecDepth 100000 in
set_option maxHeartbeats 16000000 in
theorem owns_c (n : Int) (P : Option Addr) (C : Nat) (ms : List T) (K : Option Addr) (D : Nat) (keys : List T) (w : World) (hp : InS w P ms) (hC : ms.length ≤ C) (hl : ms.length ≤ 140737488355328) (hk : InS w K keys) (hkf : Fit keys) (hT : RT w) :
    Calls Tryd.prog 3 #[.int .i64 n, .slice P ms.length C, .slice K keys.length D] w fun e w' => e = .returned (.bool true) ∧ Below w.heap.size w w' := by
  have HFW := Lib.hid (few_c n w)
  obtain ⟨n1, hn1⟩ : ∃ n1, fewN n = n1 := ⟨_, rfl⟩
  rw [hn1] at HFW
  have HNEW := Lib.hid (new_c n1 P C ms.length ms w hp rfl hl hC hT)
  have HKN : Hid (∀ W, Below w.heap.size w W → Calls Tryd.prog 10 #[] W fun e w' => e = .returned (.bool true) ∧ Below W.heap.size W w') := Lib.hid fun W hW => known_c W (hT.below hW)
  have HRI : Hid (∀ W, Below w.heap.size w W → Calls Tryd.prog 11 #[.int .i64 n1, .slice P ms.length C] W fun e w' => e = .returned (.bool (rightB n1 ms)) ∧ ∃ k, w' = W.drewN k) := Lib.hid fun W hW => right_c n1 P C ms W (ins_below hp hW) hl
  have HP := Lib.hid hp
  have HK := Lib.hid hk
  have HF := Lib.hid hkf
  have HT := Lib.hid hT
  obtain ⟨m, hm⟩ : ∃ m, ms.length = m := ⟨_, rfl⟩
  obtain ⟨kn, hkn⟩ : ∃ kn, keys.length = kn := ⟨_, rfl⟩
  rw [hm] at HNEW HRI hl ⊢
  rw [hkn]
  have HM := Lib.hid hm
  have HKL := Lib.hid hkn
  clear hp hC hk hkf hT hm hkn hn1
  go_enter Tryd.func3, Tryd.ntmps3
  go_wp2_with fail
  refine HFW.out.mono ?_
  rintro e _ ⟨rfl, rfl⟩
  clear HFW
  go_wp2_with fail
  refine HNEW.out.mono ?_
  rintro e w1 (⟨hr, rfl, hb1⟩ | ⟨hr, g, np, rfl, rfl, hR, hb1⟩)
  · have HB1 := Lib.hid hb1
    have HRB := Lib.hid hr
    rw [hr] at HRI
    clear hr hb1 HNEW
    go_wp2_with fail
    refine (HKN.out w1 HB1.out).mono ?_
    rintro e w2 ⟨rfl, hb2⟩
    have HB2 := Lib.hid (bnext HB1.out hb2)
    clear hb2
    go_wp2_with fail
    refine (HRI.out w2 HB2.out).mono ?_
    rintro e w3 ⟨rfl, k, hw3⟩
    have HB3 := Lib.hid (bnext HB2.out (show Below w2.heap.size w2 w3 by rw [hw3]; exact ⟨rfl, rfl, rfl, Nat.le_refl _, fun _ _ => rfl⟩))
    clear hw3
    go_wp2_with fail
    refine (HKN.out w3 HB3.out).mono ?_
    rintro e w4 ⟨rfl, hb4⟩
    have HB4 := Lib.hid (bnext HB3.out hb4)
    clear hb4
    go_wp2_with fail
    go_ret
    exact ⟨rfl, HB4.out⟩
  · have HB1 := Lib.hid hb1
    have HR1 := Lib.hid hR
    have HRB := Lib.hid ((rightB_iff _ _).1 hr)
    rw [hr] at HRI
    clear hr hb1 HNEW hR
    have hm8 : m ≤ 8 := by have := HRB.out.2.2.hi; rw [HM.out] at this; exact this
    have hm1 : 1 ≤ m := by have := HRB.out.2.2.lo; rw [HM.out] at this; exact this
    have hn1 : 1 ≤ np := HR1.out.good.2.1
    have hn64 : np ≤ 64 := HR1.out.good.2.2
    go_wp2_with fail
    refine (HKN.out w1 HB1.out).mono ?_
    rintro e w2 ⟨rfl, hb2⟩
    have HB2 := Lib.hid (bnext HB1.out hb2)
    have HR2 := Lib.hid (HR1.out.below hb2)
    clear hb2 HR1 HB1 HKN
    go_wp2_with fail
    refine (HRI.out w2 HB2.out).mono ?_
    rintro e w3 ⟨rfl, k, hw3⟩
    have hb3 : Below w2.heap.size w2 w3 := by rw [hw3]; exact ⟨rfl, rfl, rfl, Nat.le_refl _, fun _ _ => rfl⟩
    have HB3 := Lib.hid (bnext HB2.out hb3)
    have HR3 := Lib.hid (HR2.out.below hb3)
    have HNM := Lib.hid (names_c HR3.out)
    rw [HM.out] at HNM
    clear hw3 hb3 HR2 HB2 HRI
    go_wp2_with fail
    refine HNM.out.mono ?_
    rintro e w4 ⟨v4, rfl, hn4, hb4⟩
    obtain ⟨b4, c4, rfl, _, hin4⟩ := own_in senc_len (by decide) HM.out hm1 hn4
    have HB4 := Lib.hid (bnext HB3.out hb4)
    have HR4 := Lib.hid (HR3.out.below hb4)
    have HSA := Lib.hid (texts_c (some ⟨b4, 0, none⟩) c4 ms P C ms w4 hin4 (ins_below HP.out HB4.out) (by rw [HM.out]; omega) (by rw [HM.out]; omega))
    rw [HM.out, decide_eq_true (rfl : ms = ms)] at HSA
    clear hn4 hb4 hin4 HNM HR3 HB3
    go_wp2_with fail
    refine HSA.out.mono ?_
    rintro e w5 ⟨rfl, k5, hw5⟩
    have hb5 : Below w4.heap.size w4 w5 := by rw [hw5]; exact ⟨rfl, rfl, rfl, Nat.le_refl _, fun _ _ => rfl⟩
    have HB5 := Lib.hid (bnext HB4.out hb5)
    have HR5 := Lib.hid (HR4.out.below hb5)
    have HRP := Lib.hid (rpoints_c np P C ms w5 (ins_below HP.out HB5.out) HRB.out.2.2 hn1 hn64)
    rw [HM.out] at HRP
    clear hw5 hb5 HSA HR4 HB4
    go_wp2_with fail
    refine HRP.out.mono ?_
    rintro e w6 ⟨v6, rfl, hn6, hb6⟩
    have hL1 : 1 ≤ m * np := Nat.mul_le_mul hm1 hn1
    have hL8 : m * np ≤ 8 * 64 := Nat.mul_le_mul hm8 hn64
    have hrl : (rpts np ms).length = m * np := by rw [rpts_len, HM.out]
    obtain ⟨b6, c6, rfl, _, hin6⟩ := own_in pnc_len (by decide) hrl hL1 hn6
    have HB6 := Lib.hid (bnext HB5.out hb6)
    have HR6 := Lib.hid (HR5.out.below hb6)
    have HI6 : Hid (InG pnc 2 w6 (some ⟨b6, 0, none⟩) (rpts np ms)) := Lib.hid hin6
    have HPT := Lib.hid (points_c HR6.out)
    rw [HM.out] at HPT
    have HRL := Lib.hid hrl
    clear hn6 hb6 hin6 hrl HRP HR5 HB5
    go_wp2_with fail
    refine HPT.out.mono ?_
    rintro e w7 ⟨v7, rfl, hn7, hb7⟩
    obtain ⟨b7, c7, rfl, _, hin7⟩ := own_in pnc_len (by decide) HRL.out hL1 hn7
    have HB7 := Lib.hid (bnext HB6.out hb7)
    have HR7 := Lib.hid (HR6.out.below hb7)
    have HI7 : Hid (InG pnc 2 w7 (some ⟨b7, 0, none⟩) (rpts np ms)) := Lib.hid hin7
    have HJ7 : Hid (InG pnc 2 w7 (some ⟨b6, 0, none⟩) (rpts np ms)) := Lib.hid (HI6.out.below pnc_len (by decide) hb7)
    obtain ⟨L, hL⟩ : ∃ L, m * np = L := ⟨_, rfl⟩
    have HLE := Lib.hid hL
    rw [hL] at HRL hL1 hL8 ⊢
    have i1 : ((L : Int) != (L : Int)) = false := by simp
    clear hn7 hb7 hin7 hL HR6 HB6 HI6 HPT
    go_wp2_with fail
    clear i1
    go_loopg [11] L (fun g s9 wx => ∃ i : Nat, i + g = L ∧ s9 = .int .i64 (i : Int) ∧ Hid (Below w7.heap.size w7 wx))
    case atStart => exact ⟨0, by omega, rfl, Lib.hid (Below.refl _ _)⟩
    case round =>
      obtain ⟨i, hig, rfl, HBX⟩ := hrel
      have HBW := Lib.hid (bnext HB7.out HBX.out)
      rcases gk with _ | gk
      · obtain rfl : i = L := by omega
        have j1 : decide ((i : Int) < (i : Int)) = false := by simp
        have HR8 := Lib.hid (HR7.out.below HBX.out)
        have HJ8 : Hid (InG pnc 2 wr (some ⟨b6, 0, none⟩) (rpts np ms)) := Lib.hid (HJ7.out.below pnc_len (by decide) HBX.out)
        go_wp2_with fail
        clear HBX HR7 HJ7 HI7 j1
        go_loopg [12] (min kn 20) (fun g s12 wx => ∃ i5 : Nat, i5 + g = min kn 20 ∧ s12 = .int .i64 (i5 : Int) ∧ Hid (Below wr.heap.size wr wx))
        case atStart => exact ⟨0, by omega, rfl, Lib.hid (Below.refl _ _)⟩
        case round =>
          obtain ⟨i5, hig5, rfl, HBX⟩ := hrel
          have HBV := Lib.hid (bnext HBW.out HBX.out)
          rcases gk with _ | gk
          · by_cases hik : i5 < kn
            · obtain rfl : i5 = 20 := by omega
              have j1 : decide ((20 : Int) < (kn : Int)) = true := decide_eq_true (by omega)
              have j2 : decide (20 < kn) = true := decide_eq_true hik
              go_wp2_with fail
              go_ret
              exact ⟨rfl, HBV.out⟩
            · have j1 : decide ((i5 : Int) < (kn : Int)) = false := decide_eq_false (by omega)
              have j2 : decide (i5 < kn) = false := decide_eq_false hik
              go_wp2_with fail
              go_ret
              exact ⟨rfl, HBV.out⟩
          · have hi1 : (i5 : Int) < (kn : Int) := by omega
            have hi2 : (i5 : Int) < 20 := by omega
            have hi3 : i5 < kn := by omega
            have hil : i5 < keys.length := by rw [HKL.out]; exact hi3
            obtain ⟨kb, ko, hke, hkc⟩ := txt_at (ins_below HK.out HBV.out) hil
            have hkl := HF.out _ (List.getElem_mem hil)
            obtain ⟨key, hkey⟩ : ∃ key, keys[i5] = key := ⟨_, rfl⟩
            rw [hkey] at hkc hkl
            have HPL := Lib.hid (rplace_c key wr hkl)
            unfold tx at HPL
            have hk0 := hkc wr (Below.refl _ _)
            have HKC := Lib.hid hkc
            subst hke
            clear hkey hil hkc
            go_wp2_with fail
            refine HPL.out.mono ?_
            rintro e w8 ⟨rfl, hb8⟩
            have HB8 := Lib.hid (bnext HBX.out hb8)
            have HK8 := Lib.hid hb8
            have HRO := Lib.hid (rorder_c b6 c6 (rpts np ms) (plc key) w8 (HJ8.out.below pnc_len (by decide) HB8.out) (by rw [HRL.out]; omega))
            rw [HRL.out] at HRO
            clear hb8 HPL hk0
            go_wp2_with fail
            refine HRO.out.mono ?_
            rintro e w9 ⟨v9, rfl, n9, ho9⟩
            have hl9 : (ordR np ms (plc key)).length = m := by rw [ordR_len hn1 HRB.out.2.2.nd, HM.out]
            have hn9 : n9 = m := by rw [← ho9.len]; exact hl9
            have hrow := ho9.row
            rw [hn9] at hrow
            obtain ⟨b9, c9, rfl, _, hin9⟩ := own_in (ps := ordR np ms (plc key)) ienc_len (by decide) hl9 hm1 hrow
            have HK9 := Lib.hid (bnext HK8.out ho9.bel)
            have HB9 := Lib.hid (bnext HB8.out ho9.bel)
            have hhd : (ordR np ms (plc key))[0]? = some (ownR np ms (plc key)) := by
              have h := ordR_head (n := np) ms (plc key)
              rw [List.headD_eq_head?_getD, List.head?_eq_getElem?, List.getElem?_eq_getElem (by omega)] at h
              rw [List.getElem?_eq_getElem (by omega)]
              exact congrArg some h
            have HI9 : Hid (InI w9 (some ⟨b9, 0, none⟩) (ordR np ms (plc key))) := Lib.hid hin9
            have HRX := Lib.hid (HR8.out.below HB9.out)
            have HTX : Hid (∀ W, Below w9.heap.size w9 W → RT W) := Lib.hid fun W hW => (HT.out.below (bnext HBW.out HB9.out)).below hW
            have HOR : Hid (∀ W, Below w9.heap.size w9 W → Calls Tryd.prog 19 #[.pointer (some ⟨g, 0, none⟩), .string ⟨key.toArray⟩] W fun e w' => ∃ b c, e = .returned (.slice (some ⟨b, 0, none⟩) m c) ∧ InI w' (some ⟨b, 0, none⟩) (ordR np ms (plc key)) ∧ Below W.heap.size W w') := Lib.hid fun W hW => (order_c (HRX.out.below hW) (HTX.out W hW) key hkl).mono fun _ _ ⟨v, e1, e2, e3⟩ => by
              rw [hl9] at e2
              obtain ⟨b, c, rfl, _, hin⟩ := own_in ienc_len (by decide) hl9 hm1 e2
              exact ⟨b, c, e1, hin, e3⟩
            have HOW : Hid (∀ W, Below w9.heap.size w9 W → Calls Tryd.prog 20 #[.pointer (some ⟨g, 0, none⟩), .string ⟨key.toArray⟩] W fun e w' => e = .returned (.int .i64 (ownR np ms (plc key) : Nat)) ∧ Below W.heap.size W w') := Lib.hid fun W hW => owner_c (HRX.out.below hW) (HTX.out W hW) key hkl
            obtain ⟨r0, hr0⟩ : ∃ r0, ownR np ms (plc key) = r0 := ⟨_, rfl⟩
            obtain ⟨O, hO⟩ : ∃ O, ordR np ms (plc key) = O := ⟨_, rfl⟩
            rw [hr0] at hhd HOW
            rw [hO] at hhd HOR HI9 hl9
            have HIN : Hid (∀ W b c, InI W (some ⟨b, 0, none⟩) O → InI W (some ⟨b9, 0, none⟩) O → Calls Tryd.prog 18 #[.slice (some ⟨b, 0, none⟩) m c, .slice (some ⟨b9, 0, none⟩) m c9] W fun e w' => e = .returned (.bool true) ∧ ∃ k, w' = W.drewN k) := Lib.hid fun W b c h1 h2 => by
              have h := ints_c (some ⟨b, 0, none⟩) c O (some ⟨b9, 0, none⟩) c9 O W h1 h2 (by rw [hl9]; omega) (by rw [hl9]; omega)
              rw [hl9, decide_eq_true (rfl : O = O)] at h
              exact h
            obtain ⟨b', o', e', q0⟩ := ini_q HI9.out hhd
            cases e'
            rw [Nat.zero_add] at q0
            have HQ0 : Hid (∀ W, Below w9.heap.size w9 W → W.cell? ⟨b9, 0, none⟩ = some (.int .i64 (r0 : Int))) := Lib.hid fun W hW => (hW.cell (p := ⟨b9, 0, none⟩) (cell_lt q0)).trans q0
            have k0 := HKC.out w9 HK9.out
            have HKC9 : Hid (∀ W, Below w9.heap.size w9 W → W.cell? ⟨kb, ko + i5, none⟩ = some (.string ⟨key.toArray⟩)) := Lib.hid fun W hW => HKC.out W (bnext HK9.out hW)
            have HB0 : Hid (Below w9.heap.size w9 w9) := Lib.hid (Below.refl _ _)
            have hm0 : 0 < m := by omega
            have r00 : ((r0 : Int) != (r0 : Int)) = false := by simp
            clear ho9 hrow hin9 hn9 hl9 hhd hr0 hO HRO HTX HRX HKC
            go_upto_region 20 with fail
            go_cut [114] from 94 to 114 (fun s114 wx => s114 = .bool false ∧ Hid (Below w9.heap.size w9 wx))
            case first =>
              go_region_law (first
                | (go_simp; go_at_call 19; (with_reducible refine (HOR.out _ HB0.out.drew).mono ?_); rintro e wa ⟨b8, c8, rfl, hcc, hb⟩; have HBA := Lib.hid (HB0.out.drew.trans (hb.mono HB0.out.size)); have k1 := HKC9.out wa HBA.out; have q1 := HQ0.out wa HBA.out; have HIA : Hid (InI wa (some ⟨b8, 0, none⟩) O) := Lib.hid hcc; clear hb hcc)
                | (go_simp; go_at_call 18; (with_reducible refine (HIN.out _ _ _ HIA.out (HI9.out.below ienc_len (by decide) HBA.out)).mono ?_); rintro e wb ⟨rfl, kd, hwb⟩; have HBB : Hid (Below w9.heap.size w9 wb) := Lib.hid (by rw [hwb]; exact HBA.out.trans ⟨rfl, rfl, rfl, Nat.le_refl _, fun _ _ => rfl⟩); have k2 := HKC9.out wb HBB.out; have q2 := HQ0.out wb HBB.out; clear hwb)
                | (go_simp; go_at_call 20; (with_reducible refine (HOW.out _ HBB.out).mono ?_); rintro e wc ⟨rfl, hb⟩; have HBC := Lib.hid (bnext HBB.out hb); have k3 := HKC9.out wc HBC.out; have q3 := HQ0.out wc HBC.out; clear hb))
              all_goals
                go_wp2_with fail
                go_meet
                exact ⟨rfl, HBC⟩
            case rest =>
              obtain ⟨rfl, HBZ⟩ := hcut
              have HBF := Lib.hid (bnext HB9.out HBZ.out)
              clear k0 q0
              go_wp2_with fail
              go_roundg gk
              case measure => omega
              case rel => exact ⟨i5 + 1, by omega, by go_num, HBF⟩
      · have hiI : (i : Int) < (L : Int) := by omega
        have hiL : i < (rpts np ms).length := by rw [HRL.out]; omega
        obtain ⟨a0, a1⟩ := pt_at (HJ7.out.below pnc_len (by decide) HBX.out) (List.getElem?_eq_getElem hiL)
        obtain ⟨d0, d1⟩ := pt_at (HI7.out.below pnc_len (by decide) HBX.out) (List.getElem?_eq_getElem hiL)
        obtain ⟨x, hx⟩ : ∃ x, (rpts np ms)[i] = x := ⟨_, rfl⟩
        rw [hx] at a0 a1 d0 d1
        obtain ⟨xa, xr⟩ := x
        simp only at a0 a1 d0 d1
        clear hx hiL
        go_wp2_with fail
        go_quiet (fail)
        go_wp2_with fail
        go_roundg gk
        case measure => omega
        case rel => exact ⟨i + 1, by omega, by go_num, Lib.hid (HBX.out.trans ⟨rfl, rfl, rfl, Nat.le_refl _, fun _ _ => rfl⟩)⟩
end Go.Proofs.YtkababeeikhifaaDoor.rng
