/- RingShrinks. Condition: package variables (RT). -/
import Derived.Test.YtkababeeikhifaaDoorRiH
namespace Go.Proofs.YtkababeeikhifaaDoor.rng
open Go.RowKit
open Go.Proofs.YtkababeeikhifaaDoor.oct Go.Proofs.YtkababeeikhifaaDoor.ref Go.Proofs.YtkababeeikhifaaDoor.rows Go.Proofs.YtkababeeikhifaaDoor.rowg Go.Proofs.YtkababeeikhifaaDoor.trn
open Go.Proofs.YtkababeeikhifaaDoor.scp (tx senc senc_len InS ins_below ins_cell)

theorem good_but {ms : List T} (h : Good ms) {x : T} (hx : x ∈ ms) (h2 : 2 ≤ ms.length) : Good (but ms x) := by
  have hl := but_len h.nd hx
  have h8 := h.hi
  refine ⟨by omega, by omega, fun y hy => h.ok y (List.mem_filter.1 hy).1, h.nd.filter _⟩
/-- whose a key is that was the region's that goes -/
def wantR (n : Nat) (ms : List T) (k p : Nat) : Nat := if (ordR n ms p).headD 0 = k then (ordR n ms p).getD 1 0 else (ordR n ms p).headD 0
theorem want_ok {n : Nat} (hn : 1 ≤ n) {ms : List T} (h : Good ms) (h2 : 2 ≤ ms.length) {k : Nat} (hk : k < ms.length) (p : Nat) : wantR n ms k p < ms.length ∧ ms.getD (wantR n ms k p) [] = ownN n (but ms ms[k]) p := by
  have hl := ordR_len hn h.nd p
  have h0 : ms ≠ [] := fun e => by rw [e] at h2; simp at h2
  have hs := shrinks hn h.nd ms[k] h.lo p
  have hlN := ordN_len hn h.nd p
  have eN : ∀ i (hi : i < (ordR n ms p).length), (ordR n ms p)[i] < ms.length ∧ ms.getD (ordR n ms p)[i] [] = (ordN n ms p).getD i [] := fun i hi => ordR_name hn p i hi
  have e0 := eN 0 (by omega)
  have e1 := eN 1 (by omega)
  have g0 : (ordR n ms p).headD 0 = (ordR n ms p)[0]'(by omega) := by
    rw [List.headD_eq_head?_getD, List.head?_eq_getElem?, List.getElem?_eq_getElem (by omega)]; rfl
  have g1 : (ordR n ms p).getD 1 0 = (ordR n ms p)[1]'(by omega) := by rw [List.getD, List.getElem?_eq_getElem (by omega)]; rfl
  have n0 : (ordN n ms p).headD [] = (ordN n ms p).getD 0 [] := by cases ordN n ms p <;> rfl
  have hiff : (ordR n ms p)[0]'(by omega) = k ↔ (ordN n ms p).getD 0 [] = ms[k] := by
    rw [← e0.2]
    rw [List.getD, List.getElem?_eq_getElem e0.1]
    show _ ↔ ms[(ordR n ms p)[0]'(by omega)]'e0.1 = ms[k]
    constructor
    · intro e; congr 1
    · intro e
      exact (List.getElem_inj h.nd).1 e
  unfold wantR
  rw [g0, g1]
  unfold but
  rw [hs, n0]
  by_cases hc : (ordR n ms p)[0]'(by omega) = k
  · rw [if_pos hc, if_pos (hiff.1 hc)]
    exact ⟨e1.1, e1.2⟩
  · rw [if_neg hc, if_neg (fun e => hc (hiff.2 e))]
    exact ⟨e0.1, e0.2⟩
theorem umod (a : Int) (m : Nat) (h1 : 1 ≤ m) (h8 : m ≤ 8) : ∃ k : Nat, k < m ∧ (IntKind.u64.wrap a).tmod (m : Int) = (k : Int) := by
  have h0 : 0 ≤ IntKind.u64.wrap a := by rw [IntKind.wrap_u64]; omega
  have h2 : (IntKind.u64.wrap a).tmod (m : Int) = (IntKind.u64.wrap a) % (m : Int) := Int.tmod_eq_emod_of_nonneg h0
  have h3 := Int.emod_nonneg (IntKind.u64.wrap a) (show (m : Int) ≠ 0 by omega)
  have h4 := Int.emod_lt_of_pos (IntKind.u64.wrap a) (show (0 : Int) < (m : Int) by omega)
  exact ⟨((IntKind.u64.wrap a) % (m : Int)).toNat, by omega, by rw [h2]; omega⟩
set_option maxRecDepth 100000 in
set_option maxHeartbeats 16000000 in
theorem shrinks_c (n : Int) (P : Option Addr) (C : Nat) (ms : List T) (gone : Int) (K : Option Addr) (D : Nat) (keys : List T) (w : World) (hp : InS w P ms) (hC : ms.length ≤ C) (hl : ms.length ≤ 140737488355328) (hk : InS w K keys) (hkf : Fit keys) (hT : RT w) :
    Calls Tryd.prog 5 #[.int .i64 n, .slice P ms.length C, .int .i64 gone, .slice K keys.length D] w fun e w' => e = .returned (.bool true) ∧ Below w.heap.size w w' := by
  have HNEW := Lib.hid (new_c n P C ms.length ms w hp rfl hl hC hT)
  have HKN : Hid (∀ W, Below w.heap.size w W → Calls Tryd.prog 10 #[] W fun e w' => e = .returned (.bool true) ∧ Below W.heap.size W w') := Lib.hid fun W hW => known_c W (hT.below hW)
  have HP := Lib.hid hp
  have HK := Lib.hid hk
  have HF := Lib.hid hkf
  have HT := Lib.hid hT
  obtain ⟨m, hm⟩ : ∃ m, ms.length = m := ⟨_, rfl⟩
  obtain ⟨kn, hkn⟩ : ∃ kn, keys.length = kn := ⟨_, rfl⟩
  rw [hm] at HNEW hl ⊢
  rw [hkn]
  have HM := Lib.hid hm
  have HKL := Lib.hid hkn
  clear hp hC hk hkf hT hm hkn
  go_enter Tryd.func5, Tryd.ntmps5
  go_wp2_with fail
  refine HNEW.out.mono ?_
  rintro e w1 (⟨hr, rfl, hb1⟩ | ⟨hr, g, np, rfl, rfl, hR, hb1⟩)
  · have HB1 := Lib.hid hb1
    clear hr hb1 HNEW
    go_wp2_with fail
    refine (HKN.out w1 HB1.out).mono ?_
    rintro e w2 ⟨rfl, hb2⟩
    have HB2 := Lib.hid (bnext HB1.out hb2)
    clear hb2
    go_wp2_with fail
    refine (HKN.out w2 HB2.out).mono ?_
    rintro e w3 ⟨rfl, hb3⟩
    have HB3 := Lib.hid (bnext HB2.out hb3)
    clear hb3
    go_wp2_with fail
    go_ret
    exact ⟨rfl, HB3.out⟩
  · have HB1 := Lib.hid hb1
    have HR1 := Lib.hid hR
    have HRB := Lib.hid ((rightB_iff _ _).1 hr)
    clear hr hb1 HNEW hR
    by_cases hm2 : m < 2
    · have i1 : decide ((m : Int) < 2) = true := decide_eq_true (by omega)
      have i2 : decide (m < 2) = true := decide_eq_true hm2
      go_wp2_with fail
      refine (HKN.out w1 HB1.out).mono ?_
      rintro e w2 ⟨rfl, hb2⟩
      have HB2 := Lib.hid (bnext HB1.out hb2)
      clear hb2
      go_wp2_with fail
      refine (HKN.out w2 HB2.out).mono ?_
      rintro e w3 ⟨rfl, hb3⟩
      have HB3 := Lib.hid (bnext HB2.out hb3)
      clear hb3
      go_wp2_with fail
      go_ret
      exact ⟨rfl, HB3.out⟩
    · have i1 : decide ((m : Int) < 2) = false := decide_eq_false (by omega)
      have i2 : decide (m < 2) = false := decide_eq_false hm2
      have hm8 : m ≤ 8 := by have := HRB.out.2.2.hi; rw [HM.out] at this; exact this
      obtain ⟨k, hkm, hku⟩ := umod gone m (by omega) hm8
      have i3 : ¬ m = 0 := by omega
      have i4 : ((m : Int) == 0) = false := by rw [beq_eq_false_iff_ne]; omega
      have hkI : (k : Int) < (m : Int) := by omega
      have hkl : k < ms.length := by rw [HM.out]; exact hkm
      have hkx : IntKind.i64.wrap (k : Int) = (k : Int) := by rw [IntKind.wrap_i64]; omega
      go_wp2_with fail
      refine (HKN.out w1 HB1.out).mono ?_
      rintro e w2 ⟨rfl, hb2⟩
      have HB2 := Lib.hid (bnext HB1.out hb2)
      have HR2 := Lib.hid (HR1.out.below hb2)
      obtain ⟨nb, no, hne, hnc⟩ := txt_at (ins_below HP.out HB2.out) hkl
      have hx0 := hnc w2 (Below.refl _ _)
      have HXM : Hid (ms[k] ∈ ms) := Lib.hid (List.getElem_mem hkl)
      have HWO := Lib.hid (without_yes HR2.out (HT.out.below HB2.out) ms[k] HXM.out)
      have HRT := Lib.hid (good_but HRB.out.2.2 HXM.out (by rw [HM.out]; omega))
      have HWANT : Hid (∀ p, wantR np ms k p < m ∧ ms.getD (wantR np ms k p) [] = ownN np (but ms ms[k]) p) := Lib.hid fun p => by
        have := want_ok HR2.out.good.2.1 HRB.out.2.2 (by rw [HM.out]; omega) hkl p
        rw [HM.out] at this
        exact this
      obtain ⟨x, hx⟩ : ∃ x, ms[k] = x := ⟨_, rfl⟩
      rw [hx] at hx0 HWO HRT HWANT
      subst hne
      unfold tx at HWO
      clear hb2 HKN HR1 HB1 hnc hx hkl HXM i1 i2
      go_wp2_with fail
      refine HWO.out.mono ?_
      rintro e w4 (⟨hr4, rfl, hb4⟩ | ⟨hr4, g4, np4, hnp, rfl, hR4, hb4⟩)
      · have : rightB (np : Int) (but ms x) = true := (rightB_iff _ _).2 ⟨HRB.out.1, HRB.out.2.1, HRT.out⟩
        rw [hr4] at this
        exact absurd this (by decide)
      · obtain rfl : np4 = np := by omega
        have HB4 := Lib.hid (bnext HB2.out hb4)
        have HR4 := Lib.hid (HR2.out.below hb4)
        have HQ4 := Lib.hid (hR4.mono (F2 := fun _ => True) fun _ _ => trivial)
        clear hr4 hnp hR4 hb4 HWO HR2 HB2 hx0 hku hkx i3 i4
        go_wp2_with fail
        go_loopg [14] (min kn 20) (fun g s14 wx => ∃ i : Nat, i + g = min kn 20 ∧ s14 = .int .i64 (i : Int) ∧ Hid (Below w4.heap.size w4 wx))
        case atStart => exact ⟨0, by omega, rfl, Lib.hid (Below.refl _ _)⟩
        case round =>
          obtain ⟨i, hig, rfl, HBX⟩ := hrel
          have HBW := Lib.hid (bnext HB4.out HBX.out)
          rcases gk with _ | gk
          · by_cases hik : i < kn
            · obtain rfl : i = 20 := by omega
              have j1 : decide ((20 : Int) < (kn : Int)) = true := decide_eq_true (by omega)
              have j2 : decide (20 < kn) = true := decide_eq_true hik
              go_wp2_with fail
              go_ret
              exact ⟨rfl, HBW.out⟩
            · have j1 : decide ((i : Int) < (kn : Int)) = false := decide_eq_false (by omega)
              have j2 : decide (i < kn) = false := decide_eq_false hik
              go_wp2_with fail
              go_ret
              exact ⟨rfl, HBW.out⟩
          · have hi1 : (i : Int) < (kn : Int) := by omega
            have hi2 : (i : Int) < 20 := by omega
            have hi3 : i < kn := by omega
            have hil : i < keys.length := by rw [HKL.out]; exact hi3
            obtain ⟨kb, ko, hke, hkc⟩ := txt_at (ins_below HK.out HBW.out) hil
            have hkl := HF.out _ (List.getElem_mem hil)
            obtain ⟨key, hkey⟩ : ∃ key, keys[i] = key := ⟨_, rfl⟩
            rw [hkey] at hkc hkl
            have HRX := Lib.hid (HR4.out.below HBX.out)
            have HQX := Lib.hid (HQ4.out.below HBX.out)
            have HTX : Hid (∀ W, Below wr.heap.size wr W → RT W) := Lib.hid fun W hW => (HT.out.below HBW.out).below hW
            have HOD := Lib.hid (order_c HRX.out (HTX.out wr (Below.refl _ _)) key hkl)
            unfold tx at HOD
            have hk0 := hkc wr (Below.refl _ _)
            have HKC := Lib.hid hkc
            subst hke
            clear hkey hil hkc HR4 HQ4
            go_wp2_with fail
            refine HOD.out.mono ?_
            rintro e w5 ⟨v5, rfl, hn5, hb5⟩
            have hRl := ordR_len HRX.out.good.2.1 HRB.out.2.2.nd (plc key)
            rw [HM.out] at hRl
            obtain ⟨b5, c5, rfl, _, hin5⟩ := own_in ienc_len (by decide) rfl (by omega) hn5
            have h50 := ini_cell hin5 0 (by omega)
            have h51 := ini_cell hin5 1 (by omega)
            obtain ⟨b', o', e', h50⟩ := h50
            cases e'
            obtain ⟨b', o', e', h51⟩ := h51
            cases e'
            have hhd := ordR_head (n := np4) ms (plc key)
            have HWN := Lib.hid (HWANT.out (plc key))
            have HR5 := Lib.hid (HRX.out.below hb5)
            have HQ5 := Lib.hid (HQX.out.below hb5)
            have HT5 : Hid (∀ W, Below w5.heap.size w5 W → RT W) := Lib.hid fun W hW => HTX.out W (bnext hb5 hW)
            have HWD : Hid (wantR np4 ms k (plc key) = if (ordR np4 ms (plc key)).headD 0 = k then (ordR np4 ms (plc key)).getD 1 0 else (ordR np4 ms (plc key)).headD 0) := Lib.hid rfl
            have g0 : (ordR np4 ms (plc key)).headD 0 = (ordR np4 ms (plc key))[0]'(by omega) := by
              rw [List.headD_eq_head?_getD, List.head?_eq_getElem?, List.getElem?_eq_getElem (by omega)]; rfl
            have g1 : (ordR np4 ms (plc key)).getD 1 0 = (ordR np4 ms (plc key))[1]'(by omega) := by rw [List.getD, List.getElem?_eq_getElem (by omega)]; rfl
            rw [g0] at hhd
            rw [g0, g1] at HWD
            obtain ⟨r0, hr0⟩ : ∃ r0, (ordR np4 ms (plc key))[0]'(by omega) = r0 := ⟨_, rfl⟩
            obtain ⟨r1, hr1⟩ : ∃ r1, (ordR np4 ms (plc key))[1]'(by omega) = r1 := ⟨_, rfl⟩
            rw [hr0] at hhd h50 HWD
            rw [hr1] at h51 HWD
            rw [hRl]
            have l50 := cell_lt h50
            have HBW5 := Lib.hid (bnext HBW.out hb5)
            have HFX := Lib.hid hb5
            have HO2 : Hid (∀ y : After w5, Calls Tryd.prog 20 #[.pointer (some ⟨g, 0, none⟩), .string ⟨key.toArray⟩] y.v fun e w' => e = .returned (.int .i64 (r0 : Nat)) ∧ ∃ z : After w5, w' = z.v) := Lib.hid fun y => by
              have := owner_c (HR5.out.below y.below) (HT5.out y.v y.below) key hkl
              rw [← hhd] at this
              exact after_of y this
            have k1 : ∀ y : After w5, y.v.cell? ⟨kb, ko + i, none⟩ = some (.string ⟨key.toArray⟩) := fun y => HKC.out y.v (bnext hb5 y.below)
            have d0 : ∀ y : After w5, y.v.cell? ⟨b5, 0, none⟩ = some (.int .i64 (r0 : Int)) := fun y => (y.below.cell (p := ⟨b5, 0, none⟩) l50).trans h50
            have d1 : ∀ y : After w5, y.v.cell? ⟨b5, 1, none⟩ = some (.int .i64 (r1 : Int)) := fun y => (y.below.cell (p := ⟨b5, 1, none⟩) l50).trans h51
            have HD0 := Lib.hid d0
            have HD1 := Lib.hid d1
            have HKC5 : Hid (∀ W, Below w5.heap.size w5 W → W.cell? ⟨kb, ko + i, none⟩ = some (.string ⟨key.toArray⟩)) := Lib.hid fun W hW => HKC.out W (bnext hb5 hW)
            clear hn5 hb5 hin5 h50 h51 hhd g0 g1 hr0 hr1 hRl l50 HRX HQX HTX HOD HKC d1 hk0
            have hm1 : (m : Int) ≥ 2 := by omega
            go_upto_region 12 with fail
            refine wp_region_after (by kernel_rfl) (by kernel_rfl) ?_
            repeat (go_big_quiet_step (first
              | (rename_i y; go_at_call 20; with_reducible exact HO2.out y)))
            refine wpQuiet_nil ?_
            rintro ⟨wq, hq⟩
            dsimp only
            have q0 : wq.cell? ⟨b5, 0, none⟩ = some (.int .i64 (r0 : Int)) := HD0.out ⟨wq, hq⟩
            have q1 : wq.cell? ⟨b5, 1, none⟩ = some (.int .i64 (r1 : Int)) := HD1.out ⟨wq, hq⟩
            have HQB := Lib.hid hq
            clear hq k1 d0 HD0 HD1 HO2
            have HRN : Hid (∃ t tz, wantR np4 ms k (plc key) = t ∧ ownN np4 (but ms x) (plc key) = tz ∧ t < m ∧ ∀ W, Below w.heap.size w W → W.cell? ⟨nb, no + t, none⟩ = some (.string ⟨tz.toArray⟩)) := Lib.hid (by
              refine ⟨_, _, rfl, rfl, HWN.out.1, fun W hW => ?_⟩
              have hwl : wantR np4 ms k (plc key) < ms.length := by rw [HM.out]; exact HWN.out.1
              obtain ⟨b, o, e, hc⟩ := txt_at HP.out hwl
              cases e
              rw [hc W hW, ← HWN.out.2]
              simp [List.getD, List.getElem?_eq_getElem hwl])
            obtain ⟨t, tz, ht, htz, htm, htc⟩ := HRN.out
            have HNQ : Hid (∀ W, Below w5.heap.size w5 W → Calls Tryd.prog 13 #[.pointer (some ⟨g4, 0, none⟩)] W fun e w' => ∃ b c, e = .returned (.slice (some ⟨b, 0, none⟩) (but ms x).length c) ∧ ownR np4 (but ms x) (plc key) < (but ms x).length ∧ (∀ W2, Below w'.heap.size w' W2 → W2.cell? ⟨b, ownR np4 (but ms x) (plc key), none⟩ = some (.string ⟨(ownN np4 (but ms x) (plc key)).toArray⟩)) ∧ Below W.heap.size W w') := Lib.hid fun W hW => (names_c (HQ5.out.below hW)).mono fun _ _ ⟨v, e1, e2, e3⟩ => by
              obtain ⟨b, c, rfl, _, hin⟩ := own_in senc_len (by decide) rfl HRT.out.lo e2
              obtain ⟨h1, b', o', e4, h2⟩ := own_at HRT.out HQ5.out.good.2.1 (plc key) hin
              cases e4
              rw [Nat.zero_add] at h2
              exact ⟨b, c, e1, h1, h2, e3⟩
            have HOQ : Hid (∀ W, Below w5.heap.size w5 W → Calls Tryd.prog 20 #[.pointer (some ⟨g4, 0, none⟩), .string ⟨key.toArray⟩] W fun e w' => e = .returned (.int .i64 (ownR np4 (but ms x) (plc key) : Nat)) ∧ Below W.heap.size W w') := Lib.hid fun W hW => owner_c (HQ5.out.below hW) (HT5.out W hW) key hkl
            obtain ⟨r2, hr2⟩ : ∃ r2, ownR np4 (but ms x) (plc key) = r2 := ⟨_, rfl⟩
            obtain ⟨m2, hm2e⟩ : ∃ m2, (but ms x).length = m2 := ⟨_, rfl⟩
            rw [hr2, htz, hm2e] at HNQ
            rw [hr2] at HOQ
            rw [ht] at HWD
            have HTC : Hid (∀ W, Below w5.heap.size w5 W → W.cell? ⟨nb, no + t, none⟩ = some (.string ⟨tz.toArray⟩)) := Lib.hid fun W hW => htc W (bnext HBW5.out hW)
            have htI : (t : Int) < (m : Int) := by omega
            have HB0 := Lib.hid HQB.out
            have k0 := HKC5.out wq HB0.out
            have t0 := HTC.out wq HB0.out
            clear hr2 hm2e ht htz htc HRN HWN HT5 HR5 HQ5
            by_cases hc : r0 = k
            · have E : Hid (t = r1) := Lib.hid (by rw [HWD.out, if_pos hc])
              have j1 : ((r0 : Int) == (k : Int)) = true := by rw [beq_iff_eq]; omega
              have j2 : (r0 == k) = true := by rw [beq_iff_eq]; exact hc
              rw [← E.out] at q1
              clear hc
              go_upto_region 17 with fail
              go_cut [113] from 99 to 113 (fun s113 wx => s113 = .bool false ∧ Hid (Below w5.heap.size w5 wx))
              case first =>
                go_region_law (first
                  | (go_simp; go_at_call 13; (with_reducible refine (HNQ.out _ HB0.out.drew).mono ?_); rintro e wb ⟨b, c, rfl, hr2, hcc, hb⟩; have HBB := Lib.hid (HB0.out.drew.trans (hb.mono HB0.out.size)); have k2 := HKC5.out wb HBB.out; have n2 := HTC.out wb HBB.out; have HCC := Lib.hid hcc; have r2I : (r2 : Int) < (m2 : Int) := (by omega); clear hb hcc)
                  | (go_simp; go_at_call 20; (with_reducible refine (HOQ.out _ HBB.out).mono ?_); rintro e wd ⟨rfl, hb⟩; have HBC := Lib.hid (bnext HBB.out hb); have n3 := HTC.out wd HBC.out; have q3 := HCC.out wd hb; clear hb))
                all_goals
                  go_wp2_with fail
                  go_meet
                  exact ⟨rfl, HBC⟩
              case rest =>
                obtain ⟨rfl, HBZ⟩ := hcut
                have HBF := Lib.hid (HBX.out.trans ((HFX.out.trans (HBZ.out.mono HFX.out.size)).mono HBX.out.size))
                clear k0 t0 q0 q1
                go_wp2_with fail
                go_roundg gk
                case measure => omega
                case rel => exact ⟨i + 1, by omega, by go_num, HBF⟩
            · have E : Hid (t = r0) := Lib.hid (by rw [HWD.out, if_neg hc])
              have j1 : ((r0 : Int) == (k : Int)) = false := by rw [beq_eq_false_iff_ne]; omega
              have j2 : (r0 == k) = false := by rw [beq_eq_false_iff_ne]; exact hc
              rw [← E.out] at q0 j1 j2
              clear hc
              go_upto_region 17 with fail
              go_cut [113] from 99 to 113 (fun s113 wx => s113 = .bool false ∧ Hid (Below w5.heap.size w5 wx))
              case first =>
                go_region_law (first
                  | (go_simp; go_at_call 13; (with_reducible refine (HNQ.out _ HB0.out.drew).mono ?_); rintro e wb ⟨b, c, rfl, hr2, hcc, hb⟩; have HBB := Lib.hid (HB0.out.drew.trans (hb.mono HB0.out.size)); have k2 := HKC5.out wb HBB.out; have n2 := HTC.out wb HBB.out; have HCC := Lib.hid hcc; have r2I : (r2 : Int) < (m2 : Int) := (by omega); clear hb hcc)
                  | (go_simp; go_at_call 20; (with_reducible refine (HOQ.out _ HBB.out).mono ?_); rintro e wd ⟨rfl, hb⟩; have HBC := Lib.hid (bnext HBB.out hb); have n3 := HTC.out wd HBC.out; have q3 := HCC.out wd hb; clear hb))
                all_goals
                  go_wp2_with fail
                  go_meet
                  exact ⟨rfl, HBC⟩
              case rest =>
                obtain ⟨rfl, HBZ⟩ := hcut
                have HBF := Lib.hid (HBX.out.trans ((HFX.out.trans (HBZ.out.mono HFX.out.size)).mono HBX.out.size))
                clear k0 t0 q0 q1
                go_wp2_with fail
                go_roundg gk
                case measure => omega
                case rel => exact ⟨i + 1, by omega, by go_num, HBF⟩
end Go.Proofs.YtkababeeikhifaaDoor.rng
