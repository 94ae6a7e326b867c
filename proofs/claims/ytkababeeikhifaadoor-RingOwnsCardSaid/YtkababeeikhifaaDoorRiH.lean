/- RingGrows. Condition: package variables (RT). -/
import Derived.Test.YtkababeeikhifaaDoorRiG
namespace Go.Proofs.YtkababeeikhifaaDoor.rng
open Go.RowKit
open Go.Proofs.YtkababeeikhifaaDoor.oct Go.Proofs.YtkababeeikhifaaDoor.ref Go.Proofs.YtkababeeikhifaaDoor.rows Go.Proofs.YtkababeeikhifaaDoor.rowg Go.Proofs.YtkababeeikhifaaDoor.trn
open Go.Proofs.YtkababeeikhifaaDoor.scp (tx senc senc_len InS ins_below ins_cell)

/-- texts within the reach -/
def Fit (l : List T) : Prop := ∀ x ∈ l, x.length ≤ 140737488354500
theorem but_new {ms : List T} {x : T} (hx : x ∉ ms) : but (ms ++ [x]) x = ms := by
  unfold but
  rw [List.filter_append]
  have h1 : ms.filter (fun y => !decide (y = x)) = ms := List.filter_eq_self.2 fun y hy => by
    have : y ≠ x := fun e => hx (e ▸ hy)
    simp [this]
  rw [h1]; simp
theorem good_new {ms : List T} {x : T} (h : Good (ms ++ [x])) : x ∉ ms := fun hx => by
  have := h.nd
  rw [List.nodup_append] at this
  exact this.2.2 x hx x List.mem_cons_self rfl
/-- a text of a row, in whatever world behind -/
theorem txt_at {w : World} {P : Option Addr} {l : List T} (h : InS w P l) {i : Nat} (hi : i < l.length) : ∃ b o, P = some ⟨b, o, none⟩ ∧ ∀ W, Below w.heap.size w W → W.cell? ⟨b, o + i, none⟩ = some (.string ⟨(l[i]).toArray⟩) := by
  obtain ⟨b, o, e, hc⟩ := ins_cell h i hi
  exact ⟨b, o, e, fun W hW => (hW.cell (p := ⟨b, o + i, none⟩) (cell_lt hc)).trans hc⟩
/-- the name of a key's owner, in whatever row of the names -/
theorem own_at {n : Nat} {ms : List T} (h : Good ms) (hn : 1 ≤ n) (p : Nat) {w : World} {P : Option Addr} (hp : InS w P ms) : ownR n ms p < ms.length ∧ ∃ b o, P = some ⟨b, o, none⟩ ∧ ∀ W, Below w.heap.size w W → W.cell? ⟨b, o + ownR n ms p, none⟩ = some (.string ⟨(ownN n ms p).toArray⟩) := by
  have h0 : ms ≠ [] := fun e => by have := h.lo; rw [e] at this; simp at this
  have h1 := ownR_lt hn h0 p
  refine ⟨h1, ?_⟩
  obtain ⟨b, o, e, hc⟩ := txt_at hp h1
  have h2 := ownR_name hn h0 p
  rw [List.getD, List.getElem?_eq_getElem h1] at h2
  refine ⟨b, o, e, fun W hW => ?_⟩
  rw [hc W hW, ← h2]
  rfl
set_option maxRecDepth 100000 in
set_option maxHeartbeats 16000000 in
theorem grows_c (n : Int) (P : Option Addr) (C : Nat) (ms : List T) (name : T) (K : Option Addr) (D : Nat) (keys : List T) (w : World) (hp : InS w P ms) (hC : ms.length ≤ C) (hl : ms.length ≤ 140737488355328) (hk : InS w K keys) (hkf : Fit keys) (hT : RT w) :
    Calls Tryd.prog 4 #[.int .i64 n, .slice P ms.length C, tx name, .slice K keys.length D] w fun e w' => e = .returned (.bool true) ∧ Below w.heap.size w w' := by
  have HNEW := Lib.hid (new_c n P C ms.length ms w hp rfl hl hC hT)
  have HKN : Hid (∀ W, Below w.heap.size w W → Calls Tryd.prog 10 #[] W fun e w' => e = .returned (.bool true) ∧ Below W.heap.size W w') := Lib.hid fun W hW => known_c W (hT.below hW)
  have HP := Lib.hid hp
  have HK := Lib.hid hk
  have HF := Lib.hid hkf
  have HT := Lib.hid hT
  obtain ⟨m, hm⟩ : ∃ m, ms.length = m := ⟨_, rfl⟩
  obtain ⟨kn, hkn⟩ : ∃ kn, keys.length = kn := ⟨_, rfl⟩
  rw [hm] at HNEW hl ⊢
  rw [hkn]
  have HM := Lib.hid hm
  have HKL := Lib.hid hkn
  unfold tx
  clear hp hC hk hkf hT hm hkn
  go_enter Tryd.func4, Tryd.ntmps4
  go_wp2_with fail
  refine HNEW.out.mono ?_
  rintro e w1 (⟨hr, rfl, hb1⟩ | ⟨hr, g, np, rfl, rfl, hR, hb1⟩)
  · have HB1 := Lib.hid hb1
    clear hr hb1 HNEW
    go_wp2_with fail
    refine (HKN.out w1 HB1.out).mono ?_
    rintro e w2 ⟨rfl, hb2⟩
    have HB2 := Lib.hid (bnext HB1.out hb2)
    clear hb2
    go_wp2_with fail
    refine (HKN.out w2 HB2.out).mono ?_
    rintro e w3 ⟨rfl, hb3⟩
    have HB3 := Lib.hid (bnext HB2.out hb3)
    clear hb3
    go_wp2_with fail
    go_ret
    exact ⟨rfl, HB3.out⟩
  · have HB1 := Lib.hid hb1
    have HR1 := Lib.hid hR
    have HRB := Lib.hid hr
    clear hr hb1 HNEW hR
    go_wp2_with fail
    refine (HKN.out w1 HB1.out).mono ?_
    rintro e w2 ⟨rfl, hb2⟩
    have HB2 := Lib.hid (bnext HB1.out hb2)
    have HR2 := Lib.hid (HR1.out.below hb2)
    have HW := Lib.hid (with_c HR2.out (HT.out.below HB2.out) name)
    unfold tx at HW
    clear hb2 HKN HR1 HB1
    go_wp2_with fail
    refine HW.out.mono ?_
    rintro e w3 (⟨hr3, rfl, hb3⟩ | ⟨hr3, g3, np3, hnp, rfl, hR3, hb3⟩)
    · have HB3 := Lib.hid (bnext HB2.out hb3)
      clear hr3 hb3 HW
      go_wp2_with fail
      go_ret
      exact ⟨rfl, HB3.out⟩
    · obtain rfl : np3 = np := by omega
      have HB3 := Lib.hid (bnext HB2.out hb3)
      have HR3 := Lib.hid (HR2.out.below hb3)
      have HQ3 := Lib.hid hR3
      have HRT := Lib.hid (((rightB_iff _ _).1 hr3).2.2)
      have hnot := good_new HRT.out
      have HWO := Lib.hid (without_yes hR3 (HT.out.below HB3.out) name (by simp))
      rw [but_new hnot] at HWO
      have HNOT := Lib.hid hnot
      unfold tx at HWO
      clear hr3 hb3 hnp hR3 hnot HW HB2 HR2
      go_wp2_with fail
      refine HWO.out.mono ?_
      rintro e w4 (⟨hr4, rfl, hb4⟩ | ⟨hr4, g4, np4, hnp, rfl, hR4, hb4⟩)
      · rw [hr4] at HRB
        exact absurd HRB.out (by decide)
      · obtain rfl : np4 = np3 := by omega
        have HB4 := Lib.hid (bnext HB3.out hb4)
        have HR4 := Lib.hid (HR3.out.below hb4)
        have HQ4 := Lib.hid (HQ3.out.below hb4)
        have HBK := Lib.hid (hR4.mono (F2 := fun _ => True) fun _ _ => trivial)
        clear hr4 hnp hR4 hb4 HWO HR3 HQ3 HB3
        have HNM := Lib.hid (names_c HBK.out)
        rw [HM.out] at HNM
        go_wp2_with fail
        refine HNM.out.mono ?_
        rintro e w5 ⟨v5, rfl, hn5, hb5⟩
        obtain ⟨p5, c5, rfl⟩ := cln.own_slice hn5
        have HB5 := Lib.hid (bnext HB4.out hb5)
        have hin5 : InS w5 p5 ms := by
          obtain ⟨b, c, e, _, hin⟩ := own_in senc_len (by decide) HM.out (by have := HRT.out.lo; have := HR4.out.good.1.lo; rw [HM.out] at this; exact this) hn5
          injection e with e1 e2 e3
          rw [e1]; exact hin
        have HSA := Lib.hid (texts_c p5 c5 ms P C ms w5 hin5 (ins_below HP.out HB5.out) (by rw [HM.out]; exact hl) (by rw [HM.out]; exact hl))
        rw [HM.out, decide_eq_true (rfl : ms = ms)] at HSA
        have HR5 := Lib.hid (HR4.out.below hb5)
        have HQ5 := Lib.hid (HQ4.out.below hb5)
        have HBK5 := Lib.hid (HBK.out.below hb5)
        clear hn5 hb5 hin5 HNM HBK HR4 HQ4 HB4
        go_wp2_with fail
        refine HSA.out.mono ?_
        rintro e w6 ⟨rfl, nd, hw6⟩
        have hb6 : Below w5.heap.size w5 w6 := by rw [hw6]; exact ⟨rfl, rfl, rfl, Nat.le_refl _, fun _ _ => rfl⟩
        have HB6 := Lib.hid (bnext HB5.out hb6)
        have HR6 := Lib.hid (HR5.out.below hb6)
        have HQ6 := Lib.hid (HQ5.out.below hb6)
        have HBK6 := Lib.hid (HBK5.out.below hb6)
        have hgd := HR6.out.good
        have hL8 : ms.length * np4 ≤ 8 * 64 := Nat.mul_le_mul hgd.1.hi hgd.2.2
        have hL7 : (ms ++ [name]).length * np4 = ms.length * np4 + np4 := by rw [List.length_append, Nat.add_mul]; simp
        have hn64 := hgd.2.2
        have HPQ := Lib.hid (points_c HQ6.out)
        obtain ⟨L7, hL7e⟩ : ∃ L7, (ms ++ [name]).length * np4 = L7 := ⟨_, rfl⟩
        obtain ⟨L8, hL8e⟩ : ∃ L8, ms.length * np4 = L8 := ⟨_, rfl⟩
        rw [hL8e] at hL8
        rw [hL7e, hL8e] at hL7
        rw [hL7e] at HPQ
        have HL8 := Lib.hid hL8e
        have i9 : ((L7 : Int) != ((L8 : Int) + (np4 : Int))) = false := by rw [bne_eq_false_iff_eq]; omega
        have i8 : (L7 != L8 + np4) = false := by rw [bne_eq_false_iff_eq]; omega
        clear hw6 hb6 hL7e hL8e hL7 hgd HR5 HQ5 HBK5 HB5 HSA
        go_wp2_with fail
        refine HPQ.out.mono ?_
        rintro e w7 ⟨v7, rfl, hn7, hb7⟩
        obtain ⟨p7, c7, rfl⟩ := cln.own_slice hn7
        have HB7 := Lib.hid (bnext HB6.out hb7)
        have HR7 := Lib.hid (HR6.out.below hb7)
        have HQ7 := Lib.hid (HQ6.out.below hb7)
        have HBK7 := Lib.hid (HBK6.out.below hb7)
        have HPR := Lib.hid (points_c HR7.out)
        rw [HL8.out] at HPR
        clear hn7 hb7 HR6 HQ6 HBK6 HB6 HPQ
        go_wp2_with fail
        refine HPR.out.mono ?_
        rintro e w8 ⟨v8, rfl, hn8, hb8⟩
        obtain ⟨p8, c8, rfl⟩ := cln.own_slice hn8
        have HB8 := Lib.hid (bnext HB7.out hb8)
        have HR8 := Lib.hid (HR7.out.below hb8)
        have HQ8 := Lib.hid (HQ7.out.below hb8)
        have HBK8 := Lib.hid (HBK7.out.below hb8)
        clear hn8 hb8 HR7 HQ7 HBK7 HB7 HPR
        go_wp2_with fail
        clear i8 i9 hL8
        go_loopg [14] (min kn 20) (fun g s14 wx => ∃ i : Nat, i + g = min kn 20 ∧ s14 = .int .i64 (i : Int) ∧ Hid (Below w8.heap.size w8 wx))
        case atStart => exact ⟨0, by omega, rfl, Lib.hid (Below.refl _ _)⟩
        case round =>
          obtain ⟨i, hig, rfl, HBX⟩ := hrel
          have HBW := Lib.hid (bnext HB8.out HBX.out)
          rcases gk with _ | gk
          · by_cases hik : i < kn
            · obtain rfl : i = 20 := by omega
              have j1 : decide ((20 : Int) < (kn : Int)) = true := decide_eq_true (by omega)
              have j2 : decide (20 < kn) = true := decide_eq_true hik
              go_wp2_with fail
              go_ret
              exact ⟨rfl, HBW.out⟩
            · have j1 : decide ((i : Int) < (kn : Int)) = false := decide_eq_false (by omega)
              have j2 : decide (i < kn) = false := decide_eq_false hik
              go_wp2_with fail
              go_ret
              exact ⟨rfl, HBW.out⟩
          · have hi1 : (i : Int) < (kn : Int) := by omega
            have hi2 : (i : Int) < 20 := by omega
            have hi3 : i < kn := by omega
            have hil : i < keys.length := by rw [HKL.out]; exact hi3
            obtain ⟨kb, ko, hke, hkc⟩ := txt_at (ins_below HK.out HBW.out) hil
            have hkl := HF.out _ (List.getElem_mem hil)
            obtain ⟨key, hkey⟩ : ∃ key, keys[i] = key := ⟨_, rfl⟩
            rw [hkey] at hkc hkl
            have HRX := Lib.hid (HR8.out.below HBX.out)
            have HQX := Lib.hid (HQ8.out.below HBX.out)
            have HBKX := Lib.hid (HBK8.out.below HBX.out)
            have HTX : Hid (∀ W, Below wr.heap.size wr W → RT W) := Lib.hid fun W hW => (HT.out.below HBW.out).below hW
            obtain ⟨a1, nb, no, hne, hnc⟩ := own_at HR8.out.good.1 HR8.out.good.2.1 (plc key) (ins_below HP.out HBW.out)
            have hgr := grows HR8.out.good.2.1 (names := ms) name HNOT.out (plc key)
            have HNQ : Hid (∀ W, Below wr.heap.size wr W → Calls Tryd.prog 13 #[.pointer (some ⟨g3, 0, none⟩)] W fun e w' => ∃ b c, e = .returned (.slice (some ⟨b, 0, none⟩) (ms ++ [name]).length c) ∧ ownR np4 (ms ++ [name]) (plc key) < (ms ++ [name]).length ∧ (∀ W2, Below w'.heap.size w' W2 → W2.cell? ⟨b, ownR np4 (ms ++ [name]) (plc key), none⟩ = some (.string ⟨(ownN np4 (ms ++ [name]) (plc key)).toArray⟩)) ∧ Below W.heap.size W w') := Lib.hid fun W hW => (names_c (HQX.out.below hW)).mono fun _ _ ⟨v, e1, e2, e3⟩ => by
              obtain ⟨b, c, rfl, _, hin⟩ := own_in senc_len (by decide) rfl HRT.out.lo e2
              obtain ⟨h1, b', o', e4, h2⟩ := own_at HRT.out HR8.out.good.2.1 (plc key) hin
              cases e4
              rw [Nat.zero_add] at h2
              exact ⟨b, c, e1, h1, h2, e3⟩
            have HOR : Hid (∀ W, Below wr.heap.size wr W → Calls Tryd.prog 20 #[.pointer (some ⟨g, 0, none⟩), .string ⟨key.toArray⟩] W fun e w' => e = .returned (.int .i64 (ownR np4 ms (plc key) : Nat)) ∧ Below W.heap.size W w') := Lib.hid fun W hW => owner_c (HRX.out.below hW) (HTX.out W hW) key hkl
            have HOQ : Hid (∀ W, Below wr.heap.size wr W → Calls Tryd.prog 20 #[.pointer (some ⟨g3, 0, none⟩), .string ⟨key.toArray⟩] W fun e w' => e = .returned (.int .i64 (ownR np4 (ms ++ [name]) (plc key) : Nat)) ∧ Below W.heap.size W w') := Lib.hid fun W hW => owner_c (HQX.out.below hW) (HTX.out W hW) key hkl
            have HOB : Hid (∀ W, Below wr.heap.size wr W → Calls Tryd.prog 20 #[.pointer (some ⟨g4, 0, none⟩), .string ⟨key.toArray⟩] W fun e w' => e = .returned (.int .i64 (ownR np4 ms (plc key) : Nat)) ∧ Below W.heap.size W w') := Lib.hid fun W hW => owner_c (HBKX.out.below hW) (HTX.out W hW) key hkl
            obtain ⟨r1, hr1⟩ : ∃ r1, ownR np4 ms (plc key) = r1 := ⟨_, rfl⟩
            obtain ⟨r2, hr2⟩ : ∃ r2, ownR np4 (ms ++ [name]) (plc key) = r2 := ⟨_, rfl⟩
            obtain ⟨t1, ht1⟩ : ∃ t1, ownN np4 ms (plc key) = t1 := ⟨_, rfl⟩
            obtain ⟨t2, ht2⟩ : ∃ t2, ownN np4 (ms ++ [name]) (plc key) = t2 := ⟨_, rfl⟩
            obtain ⟨m2, hm2⟩ : ∃ m2, (ms ++ [name]).length = m2 := ⟨_, rfl⟩
            rw [hr1] at a1 hnc HOR HOB
            rw [hr2, ht2, hm2] at HNQ
            rw [hr2] at HOQ
            rw [ht1] at hnc hgr
            rw [ht2] at hgr
            rw [HM.out] at a1
            subst hke
            cases hne
            have HKC := Lib.hid hkc
            have HNC := Lib.hid hnc
            have hk0 := hkc wr (Below.refl _ _)
            have hn0 := hnc wr (Below.refl _ _)
            have a1I : (r1 : Int) < (m : Int) := by omega
            have HB0 : Hid (Below wr.heap.size wr wr) := Lib.hid (Below.refl _ _)
            have HGR := Lib.hid hgr
            clear hr1 hr2 ht1 ht2 hm2 hkey hil hkc hnc hgr HR8 HQ8 HBK8 HTX
            go_upto_region 13 with fail
            go_cut [15, 16] from 84 to 102 (fun s15 s16 wx => s15 = .string ⟨t1.toArray⟩ ∧ s16 = .string ⟨t2.toArray⟩ ∧ Hid (Below wr.heap.size wr wx))
            case first =>
              go_region_law (first
                | (go_simp; go_at_call 20; (with_reducible refine (HOR.out _ HB0.out.drew).mono ?_); rintro e wa ⟨rfl, hb⟩; have HBA := Lib.hid (HB0.out.drew.trans (hb.mono HB0.out.size)); have k1 := HKC.out wa HBA.out; have n1 := HNC.out wa HBA.out; clear hb)
                | (go_simp; go_at_call 13; (with_reducible refine (HNQ.out _ HBA.out).mono ?_); rintro e wb ⟨b, c, rfl, hr2, hcc, hb⟩; have HBB := Lib.hid (bnext HBA.out hb); have k2 := HKC.out wb HBB.out; have n2 := HNC.out wb HBB.out; have q2 := hcc wb (Below.refl _ _); have HCC := Lib.hid hcc; have r2I : (r2 : Int) < (m2 : Int) := (by omega); clear hb hcc)
                | (go_simp; go_at_call 20; (with_reducible refine (HOQ.out _ HBB.out).mono ?_); rintro e wc ⟨rfl, hb⟩; have HBC := Lib.hid (bnext HBB.out hb); have k3 := HKC.out wc HBC.out; have n3 := HNC.out wc HBC.out; have q3 := HCC.out wc hb; clear hb))
              all_goals
                go_wp2_with fail
                go_meet
                exact ⟨rfl, rfl, HBC⟩
            case rest =>
              obtain ⟨rfl, rfl, HBR⟩ := hcut
              clear HOQ HNQ hn0 hk0 a1 a1I
              have k0 := HKC.out _ HBR.out
              have HOB2 : Hid (∀ y : After wc, Calls Tryd.prog 20 #[.pointer (some ⟨g4, 0, none⟩), .string ⟨key.toArray⟩] y.v fun e w' => e = .returned (.int .i64 (r1 : Nat)) ∧ ∃ z : After wc, w' = z.v) := Lib.hid fun y => after_of y (HOB.out y.v (bnext HBR.out y.below))
              have HOR2 : Hid (∀ y : After wc, Calls Tryd.prog 20 #[.pointer (some ⟨g, 0, none⟩), .string ⟨key.toArray⟩] y.v fun e w' => e = .returned (.int .i64 (r1 : Nat)) ∧ ∃ z : After wc, w' = z.v) := Lib.hid fun y => after_of y (HOR.out y.v (bnext HBR.out y.below))
              have k1 : ∀ y : After wc, y.v.cell? ⟨kb, ko + i, none⟩ = some (.string ⟨key.toArray⟩) := fun y => HKC.out y.v (bnext HBR.out y.below)
              have hne : t2 ≠ t1 → t2 = name := fun h => HGR.out.resolve_left h
              clear k0
              go_upto_region 14 with fail
              go_cut [125] from 103 to 125 (fun s125 wx => s125 = .bool false ∧ Hid (Below wr.heap.size wr wx))
              case first =>
                by_cases he : t2 = t1
                · subst he
                  have b1 : (t2 == t2) = true := by simp
                  clear hne
                  refine wp_region_after (by kernel_rfl) (by kernel_rfl) ?_
                  repeat (go_big_quiet_step (first
                    | (rename_i y; go_at_call 20; with_reducible exact HOB2.out y)
                    | (rename_i y; go_at_call 20; with_reducible exact HOR2.out y)))
                  refine wpQuiet_nil ?_
                  rintro ⟨wq, hq⟩
                  dsimp only
                  have HQB := Lib.hid (bnext HBR.out hq)
                  clear hq k1
                  go_wp2_with fail
                  go_meet
                  exact ⟨rfl, HQB⟩
                · have b1 : (t2 == t1) = false := by simpa using he
                  have b2 : (t2 == name) = true := by simpa using hne he
                  clear he hne
                  refine wp_region_after (by kernel_rfl) (by kernel_rfl) ?_
                  repeat (go_big_quiet_step (first
                    | (rename_i y; go_at_call 20; with_reducible exact HOB2.out y)
                    | (rename_i y; go_at_call 20; with_reducible exact HOR2.out y)))
                  refine wpQuiet_nil ?_
                  rintro ⟨wq, hq⟩
                  dsimp only
                  have HQB := Lib.hid (bnext HBR.out hq)
                  clear hq k1
                  go_wp2_with fail
                  go_meet
                  exact ⟨rfl, HQB⟩
              case rest =>
                obtain ⟨rfl, HBZ⟩ := hcut
                have HBF := Lib.hid (HBX.out.trans (HBZ.out.mono HBX.out.size))
                clear k1
                go_wp2_with fail
                go_roundg gk
                case measure => omega
                case rel => exact ⟨i + 1, by omega, by go_num, HBF⟩
end Go.Proofs.YtkababeeikhifaaDoor.rng
