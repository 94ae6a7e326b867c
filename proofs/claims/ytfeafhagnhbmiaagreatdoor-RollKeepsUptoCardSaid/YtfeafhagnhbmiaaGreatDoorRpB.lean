/- RollKeeps. No condition beyond what slices and texts are; an Id of at most 1048575 bytes. -/
import Derived.Test.YtfeafhagnhbmiaaGreatDoorRpA
import Derived.Test.YtfeafhagnhbmiaaGreatDoorRoM
namespace Go.Proofs.YtfeafhagnhbmiaaGreatDoor.rol
open Go.RowKit
open Go.Proofs.YtfeafhagnhbmiaaGreatDoor.oct Go.Proofs.YtfeafhagnhbmiaaGreatDoor.ref Go.Proofs.YtfeafhagnhbmiaaGreatDoor.rows Go.Proofs.YtfeafhagnhbmiaaGreatDoor.rowg Go.Proofs.YtfeafhagnhbmiaaGreatDoor.trn
open Go.Proofs.YtfeafhagnhbmiaaGreatDoor.scp (tx senc senc_len senc_one InS ins_below ins_cell lt hasB Lst lval lenc GoodL FitS setP infoStr)
open Go.Proofs.YtfeafhagnhbmiaaGreatDoor.fld (Pr InPr getV getN quote)

theorem head_len3 {id sec : T} (h : id.length + sec.length ≤ 1048577) : (headP id sec).length ≤ 8388608 := by
  have l1 := fld.quote_len id
  have l2 := fld.quote_len sec
  have hbl := basT_len (quote id ++ 58 :: quote sec)
  have h6 : wBas.length = 6 := rfl
  unfold headP
  rw [List.length_append, h6]
  rw [List.length_append, List.length_cons] at hbl
  omega
theorem auth_nobody (s : T) : authP [] s [] = ([], 2) := by
  unfold authP
  by_cases h : s = []
  · rw [if_pos h]
    unfold authF
    rw [if_neg (by simp [getN]), if_pos (Or.inl (by simp [getN]))]
  · rw [if_neg h]
    unfold authH
    rw [if_neg (by simp [getN])]
    split
    · rfl
    · exact if_pos (Or.inl rfl)
theorem infoCm : (Tryz.prog.info? 27).map (fun i => (i.zero, i.size, i.bytes)) = some (some (.agg #[.string ⟨#[]⟩, .string ⟨#[]⟩, .bool false, .slice none 0 0, .slice none 0 0, .slice none 0 0]), 6, 112) := by kernel_rfl
theorem nobody (F : Nat → Prop) (w : World) : RolN w F none [] := Or.inl ⟨rfl, rfl⟩
set_option maxRecDepth 100000 in
theorem ids_nil (w : World) : Calls Tryz.prog 12 #[.pointer none] w fun e w' => e = .returned (.slice none 0 0) ∧ w = w' := by
  go_enter Tryz.func12, Tryz.ntmps12
  go_wp2_with fail
  go_ret
  exact ⟨rfl, rfl⟩
set_option maxRecDepth 100000 in
set_option maxHeartbeats 16000000 in
theorem rkeeps_law (P : Option Addr) (C : Nat) (xs0 : List Cm) (id : T) (w : World) (h0 : ArgC w P C xs0) (hid : id.length ≤ 1048576) :
    Calls Tryz.prog 3 #[.slice P xs0.length C, .string ⟨id.toArray⟩] w fun e w' => e = .returned (.bool true) ∧ Below w.heap.size w w' := by
  obtain ⟨hp, hg⟩ := h0.few
  have HF := Lib.hid (few15_c P C xs0 w h0.cap)
  obtain ⟨xs, hxs⟩ : ∃ xs, xs0.take 70 = xs := ⟨_, rfl⟩
  rw [hxs] at hp hg HF
  have hl : xs.length ≤ 70 := by rw [← hxs, List.length_take]; omega
  obtain ⟨n0, hn0⟩ : ∃ n, xs0.length = n := ⟨_, rfl⟩
  rw [hn0] at HF ⊢
  clear hxs hn0 h0
  have HP := Lib.hid hp
  have HG := Lib.hid hg
  have HL := Lib.hid hl
  have HK := Lib.hid known15_c
  have HAL : Hid (∀ W, Below w.heap.size w W → Calls Tryz.prog 13 #[.slice P xs.length C] W fun e w' => e = .returned (.bool (allB (xs.map Cm.ct))) ∧ Below W.heap.size W w') := Lib.hid fun W hW => all_c P C xs W (inc_below hp hW) (fun x hx => (hg x hx).below hW) (by omega)
  have HFD : Hid (∀ W, Calls Tryz.prog 5 #[.pointer none, .string ⟨id.toArray⟩] W fun e w' => ClientA W w' (zCT, false) e) := Lib.hid fun W => find_c (nobody (fun _ => False) W) id (by omega)
  have HHD : Hid (∀ W, Calls Tryz.prog 7 #[.string ⟨id.toArray⟩, .string ⟨#[115]⟩] W fun e w' => e = .returned (.string ⟨(headP id [115]).toArray⟩) ∧ Below W.heap.size W w') := Lib.hid fun W => header_c id [115] W (by omega) (by decide)
  have hhl : (headP id [115]).length ≤ 8388608 := head_len3 (by simp; omega)
  have HAU : Hid (∀ W, Calls Tryz.prog 6 #[.pointer none, .string ⟨(headP id [115]).toArray⟩, .slice none 0 0] W fun e w' => e = .returned (.tuple #[.string ⟨#[]⟩, .int .i64 2]) ∧ Below W.heap.size W w') := Lib.hid fun W => by
    have h := auth_c (nobody (fun _ => False) W) (fun y hy => by cases hy) (headP id [115]) hhl none 0 [] ⟨fun h => absurd h (by simp), by simp, fun x hx => by cases hx⟩
    rw [show authP (([] : List Cm).map Cm.ct) (headP id [115]) [] = ([], 2) from auth_nobody _] at h
    exact h
  have HRD : Hid (∀ W, Calls Tryz.prog 8 #[.pointer none, .string ⟨id.toArray⟩, .string ⟨#[]⟩] W fun e w' => e = .returned (.tuple #[.string ⟨#[]⟩, .bool false]) ∧ Below W.heap.size W w') := Lib.hid fun W => by
    have h := redirect_c (nobody (fun _ => False) W) id [] (by omega) (by simp)
    exact h
  have HSC : Hid (∀ W, Calls Tryz.prog 9 #[.pointer none, .string ⟨id.toArray⟩, .slice none 0 0] W fun e w' => ListA W w' ([], false) e) := Lib.hid fun W => by
    have h := scope_c (nobody (fun _ => False) W) id (none, 0, []) (by omega) (LL.good (LL.zero W) (by simp))
    exact h
  have HMY : Hid (∀ W, Calls Tryz.prog 11 #[.pointer none, .string ⟨id.toArray⟩, .string ⟨#[114, 101, 102, 114, 101, 115, 104, 95, 116, 111, 107, 101, 110]⟩] W fun e w' => e = .returned (.bool false) ∧ Below W.heap.size W w') := Lib.hid fun W => may_c (nobody (fun _ => False) W) id wRT (by omega)
  have HID := Lib.hid ids_nil
  obtain ⟨n, hn⟩ : ∃ n, xs.length = n := ⟨_, rfl⟩
  rw [hn] at HF HAL
  obtain ⟨ab, hab⟩ : ∃ b, allB (xs.map Cm.ct) = b := ⟨_, rfl⟩
  rw [hab] at HAL
  have HAB := Lib.hid hab
  have HN := Lib.hid hn
  clear hp hg hl hn hab hhl hid
  have HCUR : Hid (Below w.heap.size w w) := Lib.hid (Below.refl _ _)
  go_enter Tryz.func3, Tryz.ntmps3
  go_wp2_with (first
    | (go_at_call 4; (with_reducible refine HF.out.mono ?_); rintro e w1 ⟨rfl, rfl⟩))
  refine (HFD.out _).mono ?_
  rintro e we ⟨y, rfl, hy, hyo, hbe⟩
  have HCUR := Lib.hid (bnext HCUR.out hbe)
  clear hy hyo hbe HF
  obtain ⟨yid, ysec, ypub, ⟨P3, C3, l3⟩, ⟨P4, C4, l4⟩, ⟨P5, C5, l5⟩⟩ := y
  simp only [cval, lval, tx]
  obtain ⟨wf, wg, hVe⟩ := var_c we 27 (.string ⟨yid.toArray⟩) (.string ⟨ysec.toArray⟩) (.bool ypub) (.slice P3 l3.length C3) (.slice P4 l4.length C4) (.slice P5 l5.length C5)
  have he1 := hVe.a
  have he2 := hVe.s
  obtain ⟨s0, s1, s2, s3, s4, s5⟩ := blk6 hVe.zero
  obtain ⟨t0, t1, t2, t3, t4, t5⟩ := frz6 hVe.zero
  have HCUR := Lib.hid (bnext HCUR.out hVe.below)
  clear hVe
  go_wp2_with fail
  clear he1 he2 s0 s1 s2 s3 s4 s5 t0 t1 t2 t3 t4 t5
  go_wp2_with (first
    | (go_at_call 7; (with_reducible refine (HHD.out _).mono ?_); rintro e w2 ⟨rfl, hb⟩; have HCUR := Lib.hid (bnext HCUR.out hb); clear hb)
    | (go_at_call 6; (with_reducible refine (HAU.out _).mono ?_); rintro e w3 ⟨rfl, hb⟩; have HCUR := Lib.hid (bnext HCUR.out hb); clear hb)
    | (go_at_call 8; (with_reducible refine (HRD.out _).mono ?_); rintro e w4 ⟨rfl, hb⟩; have HCUR := Lib.hid (bnext HCUR.out hb); clear hb)
    | (go_at_call 9; (with_reducible refine (HSC.out _).mono ?_); rintro e w5 ⟨sp, sc, rfl, _, hb⟩; have HCUR := Lib.hid (bnext HCUR.out hb); clear hb)
    | (go_at_call 10; (with_reducible refine (HK.out _).mono ?_); rintro e w6 ⟨rfl, hb⟩; have HCUR := Lib.hid (bnext HCUR.out hb); clear hb)
    | (go_at_call 11; (with_reducible refine (HMY.out _).mono ?_); rintro e w7 ⟨rfl, hb⟩; have HCUR := Lib.hid (bnext HCUR.out hb); clear hb)
    | (go_at_call 12; (with_reducible refine (HID.out _).mono ?_); rintro e w8 ⟨rfl, rfl⟩))
  refine (HAL.out _ HCUR.out).mono ?_
  rintro e w9 ⟨rfl, hb⟩
  have HCUR := Lib.hid (bnext HCUR.out hb)
  clear hb HAL HHD HAU HRD HSC HK HMY HID HFD
  cases ab with
  | false =>
    go_wp2_with fail
    go_ret
    exact ⟨rfl, HCUR.out⟩
  | true =>
    have HSM := Lib.hid (all_right HAB.out)
    obtain ⟨i0, hi0, hz0, hz1, hz2⟩ := info_parts infoStr
    obtain ⟨j0, hj0, hy0, hy1, hy2⟩ := info_parts infoCm
    go_wp2_with fail
    obtain ⟨u, hu⟩ : ∃ u, u = w9 := ⟨_, rfl⟩
    subst hu
    go_loopg [14, 15] n (fun gk s14 s15 wx => ∃ (i : Nat) (ys : List Cm), i + gk = n ∧ s15 = .int .i64 (i : Int) ∧ Hid (InI u wx s14 ys xs i))
    case atStart => exact ⟨0, [], by omega, rfl, InI.start _ _⟩
    case round =>
      obtain ⟨i, ys, hig, rfl, HI⟩ := hrel
      rcases gk with _ | gk
      · obtain rfl : i = n := by omega
        obtain ⟨hlen, hct, hrow, heach, hap, hbel⟩ := HI.out
        have hxl := HN.out
        have hl70 := HL.out
        rw [List.take_of_length_le (by omega)] at hct
        have hcti : ∀ (j : Nat) (h1 : j < ys.length) (h2 : j < xs.length), ys[j].ct = xs[j].ct := fun j h1 h2 => by
          have h3 : (ys.map Cm.ct)[j]'(by simpa using h1) = (xs.map Cm.ct)[j]'(by simpa using h2) := by simp [hct]
          simpa using h3
        have hsm : ∀ y ∈ ys, Small y.ct := fun y hy => right_small (HSM.out.1 _ (by rw [← hct]; exact List.mem_map_of_mem hy))
        have hgd : ∀ y ∈ ys, GoodC wr y ∧ Few y := fun y hy => small_good (heach y hy) (hsm y hy)
        have hrow2 := hrow
        rw [← hlen] at hrow2
        obtain ⟨p, c, rfl, _, _, hin⟩ := own_g clenc_len (by decide) hrow2
        have HNW := Lib.hid (new_yes (C := c) hin (fun y hy => (hgd y hy).1) (by omega) (by rw [hct]; exact HAB.out))
        have HIN : Hid (∀ W, Below wr.heap.size wr W → InC W p ys) := Lib.hid fun W hW => inc_below hin hW
        have HMB : Hid (∀ y ∈ ys, ∀ b, BlkOf y b → b < wr.heap.size) := Lib.hid fun y hy b hb => ((heach y hy).lt b hb).2
        have HEA := Lib.hid heach
        have HRO := Lib.hid hrow2
        have HAP := Lib.hid hap
        have HBE := Lib.hid hbel
        have HCT := Lib.hid hcti
        have HCTA := Lib.hid hct
        have HFW : Hid (∀ y ∈ ys, Few y) := Lib.hid fun y hy => (hgd y hy).2
        have HLEN := Lib.hid hlen
        rw [hlen] at HNW
        clear hrow hrow2 heach hap hbel hin hgd hsm hcti hct hig HI hlen hxl hl70
        rw [HLEN.out]
        go_wp2_with fail
        refine HNW.out.mono ?_
        rintro e wn ⟨g, zs, rfl, hr, hzs, _, hbn⟩
        have hrm : RolM wn (fun k => wr.heap.size ≤ k ∧ k < wn.heap.size) g zs := by
          rcases hr with ⟨h, _⟩ | ⟨g2, h, h2⟩
          · cases h
          · injection h with h
            injection h with h
            subst h
            exact h2
        have HUP0 : Hid (UpI u wn (.slice p ys.length c) ys zs (fun k => wr.heap.size ≤ k ∧ k < wn.heap.size) g 0) := Lib.hid ⟨own_belowG HRO.out hbn, fun j hj _ => (HEA.out _ (List.getElem_mem hj)).below2 hbn, hrm, HBE.out.trans (hbn.mono HBE.out.size)⟩
        have HZS : Hid (zs.map Cm.ct = xs.map Cm.ct) := Lib.hid (hzs.trans HCTA.out)
        have HBN := Lib.hid hbn
        clear hr hzs hrm hbn HNW
        go_wp2_with fail
        obtain ⟨wm, hwm⟩ : ∃ wm, wm = wr := ⟨_, rfl⟩
        subst hwm
        go_loopg [19] i (fun gk s19 wx => ∃ j : Nat, j + gk = i ∧ s19 = .int .i64 (j : Int) ∧ Hid (UpI u wx (.slice p ys.length c) ys zs (fun k => wm.heap.size ≤ k ∧ k < wn.heap.size) g j))
        case atStart => exact ⟨0, by omega, rfl, HUP0.out⟩
        case round =>
          obtain ⟨j, hjg, rfl, HU⟩ := hrel
          rcases gk with _ | gko
          · have hjn : ¬ ((j : Int) < (i : Int)) := by omega
            have hjd : decide ((j : Int) < (i : Int)) = false := decide_eq_false (by omega)
            have HU9 := Lib.hid HU.out
            clear HU hjg HMB HAP
            go_wp2_with fail
            obtain ⟨wk, hwk⟩ : ∃ wk, wk = wr := ⟨_, rfl⟩
            subst hwk
            go_loopg [25] i (fun gk s25 wx => ∃ m : Nat, m + gk = i ∧ s25 = .int .i64 (m : Int) ∧ Hid (UpI u wx (.slice p ys.length c) ys zs (fun k => wm.heap.size ≤ k ∧ k < wn.heap.size) g j))
            case atStart => exact ⟨0, by omega, rfl, HU9.out⟩
            case round =>
              obtain ⟨m, hmg, rfl, HV⟩ := hrel
              rcases gk with _ | gm
              · have hmn : ¬ ((m : Int) < (i : Int)) := by omega
                have hmd : decide ((m : Int) < (i : Int)) = false := decide_eq_false (by omega)
                have HEND := Lib.hid (bnext HCUR.out HV.out.below)
                clear HV hmg
                go_wp2_with fail
                go_ret
                exact ⟨rfl, HEND.out⟩
              · have hmI : (m : Int) < (i : Int) := by omega
                have hmx : m < xs.length := by have := HN.out; omega
                have hm70 : m < 70 := by have := HL.out; have := HN.out; omega
                obtain ⟨b, o, hP, m0, m1, m2, m3, m4, m5⟩ := inc_cells HP.out m hmx
                have hsmx : Small xs[m].ct := right_small (HSM.out.1 _ (List.mem_map_of_mem (List.getElem_mem hmx)))
                have hgx := HG.out _ (List.getElem_mem hmx)
                have hlk : lookP (zs.map Cm.ct) xs[m].id = (xs[m].ct, true) := by
                  rw [HZS.out]
                  exact look_mem HSM.out.2.1 (c := xs[m].ct) (List.mem_map_of_mem (List.getElem_mem hmx))
                have hidl : xs[m].id.length ≤ 140737488351232 := hgx.id
                have HFIND : Hid (∀ W, UpI u W (.slice p ys.length c) ys zs (fun k => wm.heap.size ≤ k ∧ k < wn.heap.size) g j → Calls Tryz.prog 5 #[.pointer (some ⟨g, 0, none⟩), .string ⟨xs[m].id.toArray⟩] W fun e w' => ∃ y2 : Cm, e = .returned (.tuple #[cval y2, .bool true]) ∧ y2.ct = xs[m].ct ∧ GoodC w' y2 ∧ Below W.heap.size W w') := Lib.hid fun W h => (find_c (Or.inr ⟨g, rfl, h.rol⟩) xs[m].id hidl).mono fun e w' hc => by
                  rw [hlk] at hc
                  obtain ⟨y2, h1, h2, h3, h4⟩ := hc
                  exact ⟨y2, h1, h2, (small_good h3 (by rw [h2]; exact hsmx)).1, h4⟩
                have HSA : Hid (∀ (y2 : Cm) (w1 W : World), Below w.heap.size w w1 → Below w1.heap.size w1 W → GoodC w1 y2 → y2.ct = xs[m].ct → Calls Tryz.prog 15 #[cval y2, cval xs[m]] W fun e w' => e = .returned (.bool true) ∧ Below W.heap.size W w') := Lib.hid fun y2 w1 W h1 h2 h3 h4 => same15_c y2 xs[m] W (h3.below h2) (hgx.below (bnext h1 h2)) h4
                obtain ⟨x, hx⟩ : ∃ x, xs[m] = x := ⟨_, rfl⟩
                rw [hx] at m0 m1 m2 m3 m4 m5 HFIND HSA
                have hbw : Below w.heap.size w wr := bnext HCUR.out HV.out.below
                have HBW := Lib.hid hbw
                have HM := Lib.hid (And.intro m0 (And.intro m1 (And.intro m2 (And.intro m3 (And.intro m4 m5)))))
                have l0 := cell_later hbw m0
                clear hsmx hgx hlk hidl hx hbw m0 m1 m2 m3 m4 m5
                obtain ⟨xid, xsec, xpub, ⟨Q3, D3, r3⟩, ⟨Q4, D4, r4⟩, ⟨Q5, D5, r5⟩⟩ := x
                simp only [tx, lval] at l0 HM HFIND
                subst hP
                have HMG := Lib.hid hmg
                clear hmg
                go_wp2_with fail
                refine (HFIND.out _ HV.out).mono ?_
                rintro e w1 ⟨y2, rfl, hct2, hgd2, hb2⟩
                have hbw1 : Below w.heap.size w w1 := bnext HBW.out hb2
                have HSAME : Hid (∀ W, Below w1.heap.size w1 W → Calls Tryz.prog 15 #[cval y2, cval ⟨xid, xsec, xpub, ⟨Q3, D3, r3⟩, ⟨Q4, D4, r4⟩, ⟨Q5, D5, r5⟩⟩] W fun e w' => e = .returned (.bool true) ∧ Below W.heap.size W w') := Lib.hid fun W hW => HSA.out y2 w1 W hbw1 hW hgd2 hct2
                clear hct2 hgd2 HSA HFIND l0
                obtain ⟨bid, bsec, bpub, ⟨E3, G3, h3⟩, ⟨E4, G4, h4⟩, ⟨E5, G5, h5⟩⟩ := y2
                simp only [cval, lval, tx] at HSAME ⊢
                obtain ⟨wf2, wg2, hVe⟩ := var_c w1 27 (.string ⟨bid.toArray⟩) (.string ⟨bsec.toArray⟩) (.bool bpub) (.slice E3 h3.length G3) (.slice E4 h4.length G4) (.slice E5 h5.length G5)
                have he1 := hVe.a
                have he2 := hVe.s
                obtain ⟨s0, s1, s2, s3, s4, s5⟩ := blk6 hVe.zero
                obtain ⟨t0, t1, t2, t3, t4, t5⟩ := frz6 hVe.zero
                obtain ⟨v0, v1, v2, v3, v4, v5⟩ := blk6 hVe.blk
                have hbg := hVe.below
                have hbw2 := bnext hbw1 hbg
                have HV2 := Lib.hid (HV.out.below2 (bnext hb2 hbg))
                obtain ⟨m0, m1, m2, m3, m4, m5⟩ := HM.out
                have l0 := cell_later hbw2 m0
                have l1 := cell_later hbw2 m1
                have l2 := cell_later hbw2 m2
                have l3' := cell_later hbw2 m3
                have l4' := cell_later hbw2 m4
                have l5' := cell_later hbw2 m5
                have e0 : ∀ q : After wg2, q.v.cell? ⟨w1.heap.size, 0, none⟩ = some (.string ⟨bid.toArray⟩) := fun q => cell_later q.below v0
                have e1 : ∀ q : After wg2, q.v.cell? ⟨w1.heap.size, 1, none⟩ = some (.string ⟨bsec.toArray⟩) := fun q => cell_later q.below v1
                have e2 : ∀ q : After wg2, q.v.cell? ⟨w1.heap.size, 2, none⟩ = some (.bool bpub) := fun q => cell_later q.below v2
                have e3 : ∀ q : After wg2, q.v.cell? ⟨w1.heap.size, 3, none⟩ = some (.slice E3 h3.length G3) := fun q => cell_later q.below v3
                have e4 : ∀ q : After wg2, q.v.cell? ⟨w1.heap.size, 4, none⟩ = some (.slice E4 h4.length G4) := fun q => cell_later q.below v4
                have e5 : ∀ q : After wg2, q.v.cell? ⟨w1.heap.size, 5, none⟩ = some (.slice E5 h5.length G5) := fun q => cell_later q.below v5
                have f0 : ∀ q : After wg2, q.v.cell? ⟨b, o + m * 6, none⟩ = some (.string ⟨xid.toArray⟩) := fun q => cell_later q.below l0
                have f1 : ∀ q : After wg2, q.v.cell? ⟨b, o + m * 6 + 1, none⟩ = some (.string ⟨xsec.toArray⟩) := fun q => cell_later q.below l1
                have f2 : ∀ q : After wg2, q.v.cell? ⟨b, o + m * 6 + 2, none⟩ = some (.bool xpub) := fun q => cell_later q.below l2
                have f3 : ∀ q : After wg2, q.v.cell? ⟨b, o + m * 6 + 3, none⟩ = some (.slice Q3 r3.length D3) := fun q => cell_later q.below l3'
                have f4 : ∀ q : After wg2, q.v.cell? ⟨b, o + m * 6 + 4, none⟩ = some (.slice Q4 r4.length D4) := fun q => cell_later q.below l4'
                have f5 : ∀ q : After wg2, q.v.cell? ⟨b, o + m * 6 + 5, none⟩ = some (.slice Q5 r5.length D5) := fun q => cell_later q.below l5'
                have CS : Hid (∀ q : After wg2, Calls Tryz.prog 15 #[.agg #[.string ⟨bid.toArray⟩, .string ⟨bsec.toArray⟩, .bool bpub, .slice E3 h3.length G3, .slice E4 h4.length G4, .slice E5 h5.length G5], .agg #[.string ⟨xid.toArray⟩, .string ⟨xsec.toArray⟩, .bool xpub, .slice Q3 r3.length D3, .slice Q4 r4.length D4, .slice Q5 r5.length D5]] q.v fun e w'' => e = .returned (.bool true) ∧ ∃ z : After wg2, w'' = z.v) := Lib.hid fun q => after_of q (HSAME.out q.v (bnext hbg q.below))
                clear hVe HSAME HV hb2 hbg hbw1 hbw2 m0 m1 m2 m3 m4 m5 l0 l1 l2 l3' l4' l5' HM HBW
                go_wp2_with fail
                clear he1 he2 s0 s1 s2 s3 s4 s5 t0 t1 t2 t3 t4 t5 v0 v1 v2 v3 v4 v5
                refine wp_region_after (by kernel_rfl) (by kernel_rfl) ?_
                repeat (go_big_quiet_step (first
                  | (rename_i q; go_at_call 15; with_reducible exact CS.out q)))
                refine wpQuiet_nil ?_
                rintro ⟨wq, hq⟩
                dsimp only
                have HV3 := Lib.hid (HV2.out.below2 hq)
                clear e0 e1 e2 e3 e4 e5 f0 f1 f2 f3 f4 f5 CS hq HV2
                go_wp2_with fail
                go_roundg gm
                case measure => omega
                case rel => exact ⟨m + 1, by have := HMG.out; omega, by go_num, HV3⟩
          · have hjy : j < ys.length := by have := HLEN.out; omega
            have hjx : j < xs.length := by have := HN.out; omega
            have hjI : (j : Int) < (i : Int) := by omega
            have hj70 : j < 70 := by have := HL.out; have := HN.out; omega
            have hbw : Below w.heap.size w wr := bnext HCUR.out HU.out.below
            obtain ⟨p2, c2, he, _, _, hin⟩ := own_g clenc_len (by decide) HU.out.row
            have hin2 : InC wr p ys := by
              injection he with q1 _ _
              rw [q1]
              exact hin
            clear he hin
            obtain ⟨bi, oi, hPi, k0, k1, k2, k3, k4, k5⟩ := inc_cells hin2 j hjy
            obtain ⟨b, o, hP, m0, m1, m2, m3, m4, m5⟩ := inc_cells HP.out j hjx
            have hoy := HU.out.each j hjy (Nat.le_refl _)
            have hctj := HCT.out j hjy hjx
            have hsmx : Small xs[j].ct := right_small (HSM.out.1 _ (List.mem_map_of_mem (List.getElem_mem hjx)))
            have hgy := (small_good hoy (by rw [hctj]; exact hsmx)).1
            have hfy := HFW.out _ (List.getElem_mem hjy)
            have hgx := HG.out _ (List.getElem_mem hjx)
            have hlk : lookP (zs.map Cm.ct) xs[j].id = (xs[j].ct, true) := by
              rw [HZS.out]
              exact look_mem HSM.out.2.1 (c := xs[j].ct) (List.mem_map_of_mem (List.getElem_mem hjx))
            have HSAME : Hid (∀ W, Below wr.heap.size wr W → Calls Tryz.prog 15 #[cval ys[j], cval xs[j]] W fun e w' => e = .returned (.bool true) ∧ Below W.heap.size W w') := Lib.hid fun W hW => same15_c ys[j] xs[j] W (hgy.below hW) (hgx.below (bnext hbw hW)) hctj
            have HWIPE : Hid (∀ W, Below wr.heap.size wr W → Calls Tryz.prog 16 #[cval ys[j]] W fun e w' => e = .returned (.tuple #[]) ∧ UpI u w' (.slice p ys.length c) ys zs (fun k => wm.heap.size ≤ k ∧ k < wn.heap.size) g (j + 1)) := Lib.hid fun W hW => (wipeO_c (hoy.below2 hW) hfy).mono fun e w' ⟨h1, h2⟩ => ⟨h1, (HU.out.below2 hW).wiped hjy HAP.out (fun b hb => HMB.out _ (List.getElem_mem hjy) b hb) (fun k hk => hk.1) h2⟩
            have hidl : xs[j].id.length ≤ 140737488351232 := hgx.id
            have HFIND : Hid (∀ W, UpI u W (.slice p ys.length c) ys zs (fun k => wm.heap.size ≤ k ∧ k < wn.heap.size) g (j + 1) → Calls Tryz.prog 5 #[.pointer (some ⟨g, 0, none⟩), .string ⟨xs[j].id.toArray⟩] W fun e w' => ∃ y2 : Cm, e = .returned (.tuple #[cval y2, .bool true]) ∧ Few y2 ∧ OwnC w' W.heap.size y2 ∧ Below W.heap.size W w') := Lib.hid fun W h => (find_c (Or.inr ⟨g, rfl, h.rol⟩) xs[j].id hidl).mono fun e w' hc => by
              rw [hlk] at hc
              obtain ⟨y2, h1, h2, h3, h4⟩ := hc
              exact ⟨y2, h1, (small_good h3 (by rw [h2]; exact hsmx)).2, h3, h4⟩
            have HSCO : Hid (∀ W, UpI u W (.slice p ys.length c) ys zs (fun k => wm.heap.size ≤ k ∧ k < wn.heap.size) g (j + 1) → Calls Tryz.prog 9 #[.pointer (some ⟨g, 0, none⟩), .string ⟨xs[j].id.toArray⟩, .slice none 0 0] W fun e w' => ∃ l b, ListA W w' (l, b) e ∧ l.length ≤ 32) := Lib.hid fun W h => (scope_c (Or.inr ⟨g, rfl, h.rol⟩) xs[j].id (none, 0, []) hidl (LL.good (LL.zero W) (by simp))).mono fun e w' hc => ⟨(scopeP (zs.map Cm.ct) xs[j].id []).1, (scopeP (zs.map Cm.ct) xs[j].id []).2, hc, Nat.le_trans (fit_scope (l := zs.map Cm.ct) (by rw [HZS.out]; exact HAB.out) xs[j].id []).2 (by simp)⟩
            obtain ⟨y, hy⟩ : ∃ y, ys[j] = y := ⟨_, rfl⟩
            obtain ⟨x, hx⟩ : ∃ x, xs[j] = x := ⟨_, rfl⟩
            rw [hy] at k0 k1 k2 k3 k4 k5 HSAME HWIPE
            rw [hx] at m0 m1 m2 m3 m4 m5 HSAME HFIND HSCO
            have HBW := Lib.hid hbw
            have HM0 := Lib.hid m0
            have l0 := cell_later hbw m0
            have l1 := cell_later hbw m1
            have l2 := cell_later hbw m2
            have l3' := cell_later hbw m3
            have l4' := cell_later hbw m4
            have l5' := cell_later hbw m5
            clear hin2 hoy hctj hsmx hgy hfy hgx hlk hidl hy hx hbw m0 m1 m2 m3 m4 m5 HU
            obtain ⟨aid, asec, apub, ⟨A3, B3, g3⟩, ⟨A4, B4, g4⟩, ⟨A5, B5, g5⟩⟩ := y
            obtain ⟨xid, xsec, xpub, ⟨Q3, D3, r3⟩, ⟨Q4, D4, r4⟩, ⟨Q5, D5, r5⟩⟩ := x
            simp only [tx, lval, cval] at k0 k1 k2 k3 k4 k5 l0 l1 l2 l3' l4' l5' HSAME HWIPE HM0 HFIND HSCO
            subst hPi
            subst hP
            have e0 : ∀ q : After wr, q.v.cell? ⟨bi, oi + j * 6, none⟩ = some (.string ⟨aid.toArray⟩) := fun q => cell_later q.below k0
            have e1 : ∀ q : After wr, q.v.cell? ⟨bi, oi + j * 6 + 1, none⟩ = some (.string ⟨asec.toArray⟩) := fun q => cell_later q.below k1
            have e2 : ∀ q : After wr, q.v.cell? ⟨bi, oi + j * 6 + 2, none⟩ = some (.bool apub) := fun q => cell_later q.below k2
            have e3 : ∀ q : After wr, q.v.cell? ⟨bi, oi + j * 6 + 3, none⟩ = some (.slice A3 g3.length B3) := fun q => cell_later q.below k3
            have e4 : ∀ q : After wr, q.v.cell? ⟨bi, oi + j * 6 + 4, none⟩ = some (.slice A4 g4.length B4) := fun q => cell_later q.below k4
            have e5 : ∀ q : After wr, q.v.cell? ⟨bi, oi + j * 6 + 5, none⟩ = some (.slice A5 g5.length B5) := fun q => cell_later q.below k5
            have f0 : ∀ q : After wr, q.v.cell? ⟨b, o + j * 6, none⟩ = some (.string ⟨xid.toArray⟩) := fun q => cell_later q.below l0
            have f1 : ∀ q : After wr, q.v.cell? ⟨b, o + j * 6 + 1, none⟩ = some (.string ⟨xsec.toArray⟩) := fun q => cell_later q.below l1
            have f2 : ∀ q : After wr, q.v.cell? ⟨b, o + j * 6 + 2, none⟩ = some (.bool xpub) := fun q => cell_later q.below l2
            have f3 : ∀ q : After wr, q.v.cell? ⟨b, o + j * 6 + 3, none⟩ = some (.slice Q3 r3.length D3) := fun q => cell_later q.below l3'
            have f4 : ∀ q : After wr, q.v.cell? ⟨b, o + j * 6 + 4, none⟩ = some (.slice Q4 r4.length D4) := fun q => cell_later q.below l4'
            have f5 : ∀ q : After wr, q.v.cell? ⟨b, o + j * 6 + 5, none⟩ = some (.slice Q5 r5.length D5) := fun q => cell_later q.below l5'
            have CS : Hid (∀ q : After wr, Calls Tryz.prog 15 #[.agg #[.string ⟨aid.toArray⟩, .string ⟨asec.toArray⟩, .bool apub, .slice A3 g3.length B3, .slice A4 g4.length B4, .slice A5 g5.length B5], .agg #[.string ⟨xid.toArray⟩, .string ⟨xsec.toArray⟩, .bool xpub, .slice Q3 r3.length D3, .slice Q4 r4.length D4, .slice Q5 r5.length D5]] q.v fun e w'' => e = .returned (.bool true) ∧ ∃ z : After wr, w'' = z.v) := Lib.hid fun q => after_of q (HSAME.out q.v q.below)
            have HKS := Lib.hid (And.intro k0 (And.intro k1 (And.intro k2 (And.intro k3 (And.intro k4 k5)))))
            clear k0 k1 k2 k3 k4 k5 l0 l1 l2 l3' l4' l5' HSAME
            go_wp2_with fail
            refine wp_region_after (by kernel_rfl) (by kernel_rfl) ?_
            repeat (go_big_quiet_step (first
              | (rename_i q; go_at_call 15; with_reducible exact CS.out q)))
            refine wpQuiet_nil ?_
            rintro ⟨wq, hq⟩
            dsimp only
            clear e0 e1 e2 e3 e4 e5 f0 f1 f2 f3 f4 f5 CS
            obtain ⟨k0, k1, k2, k3, k4, k5⟩ := HKS.out
            have k0 := cell_later hq k0
            have k1 := cell_later hq k1
            have k2 := cell_later hq k2
            have k3 := cell_later hq k3
            have k4 := cell_later hq k4
            have k5 := cell_later hq k5
            have HWP := Lib.hid (HWIPE.out wq hq)
            clear hq HKS HWIPE
            go_wp2_with fail
            refine HWP.out.mono ?_
            rintro e wz ⟨rfl, hup⟩
            clear k0 k1 k2 k3 k4 k5 HWP
            have HUP := Lib.hid hup
            have l0 := cell_later (bnext HCUR.out hup.below) HM0.out
            clear hup
            go_wp2_with fail
            refine (HFIND.out _ HUP.out).mono ?_
            rintro e w1 ⟨y2, rfl, hf2, ho2, hb2⟩
            have HW2 : Hid (∀ W, Below w1.heap.size w1 W → Calls Tryz.prog 16 #[cval y2] W fun e w' => e = .returned (.tuple #[]) ∧ Below wz.heap.size wz w') := Lib.hid fun W hW => (wipeO_c (ho2.below2 hW) hf2).mono fun e w' ⟨h1, h2⟩ => ⟨h1, wiped_new (bnext hb2 hW) (ho2.below2 hW) h2⟩
            have HB2 := Lib.hid hb2
            clear hf2 ho2 hb2
            obtain ⟨bid, bsec, bpub, ⟨E3, G3, h3⟩, ⟨E4, G4, h4⟩, ⟨E5, G5, h5⟩⟩ := y2
            simp only [cval, lval, tx] at HW2 ⊢
            obtain ⟨wf2, wg2, hVe⟩ := var_c w1 27 (.string ⟨bid.toArray⟩) (.string ⟨bsec.toArray⟩) (.bool bpub) (.slice E3 h3.length G3) (.slice E4 h4.length G4) (.slice E5 h5.length G5)
            have he1 := hVe.a
            have he2 := hVe.s
            obtain ⟨s0, s1, s2, s3, s4, s5⟩ := blk6 hVe.zero
            obtain ⟨t0, t1, t2, t3, t4, t5⟩ := frz6 hVe.zero
            obtain ⟨v0, v1, v2, v3, v4, v5⟩ := blk6 hVe.blk
            have HW3 := Lib.hid (HW2.out wg2 hVe.below)
            clear hVe HW2 l0
            go_wp2_with fail
            clear he1 he2 s0 s1 s2 s3 s4 s5 t0 t1 t2 t3 t4 t5 v0 v1 v2 v3 v4 v5
            refine HW3.out.mono ?_
            rintro e w2 ⟨rfl, hb3⟩
            have HUP2 := Lib.hid (HUP.out.below2 hb3)
            have l0 := cell_later (bnext HCUR.out HUP2.out.below) HM0.out
            clear hb3 HUP HB2 HW3
            go_wp2_with fail
            refine (HSCO.out _ HUP2.out).mono ?_
            rintro e w3 ⟨sl, sb, ⟨ps, cs, rfl, hos, hbs⟩, hsl⟩
            have HLW : Hid (LW w3 (fun k => w2.heap.size ≤ k) (ps, cs, sl)) := Lib.hid (LW.of_own hos fun k hk => (hos.lt k hk).1)
            have HB3 := Lib.hid hbs
            have HSL : Hid (sl.length ≤ 32) := Lib.hid hsl
            clear hos hbs hsl l0
            have HJG := Lib.hid hjg
            clear hjg
            go_wp2_with fail
            obtain ⟨w2', hw2'⟩ : ∃ w2', w2' = w2 := ⟨_, rfl⟩
            subst hw2'
            go_loopg [24] sl.length (fun gi s24 wx => ∃ k : Nat, k + gi = sl.length ∧ s24 = .int .i64 (k : Int) ∧ Hid (LW wx (fun q => w2'.heap.size ≤ q) (ps, cs, sl)) ∧ Hid (Below w2'.heap.size w2' wx))
            case atStart => exact ⟨0, by omega, rfl, HLW.out, HB3.out⟩
            case round =>
              obtain ⟨k, hkg, rfl, HLX, HBX3⟩ := hrel
              have hs32 := HSL.out
              rcases gk with _ | gi
              · have hkn : ¬ ((k : Int) < (sl.length : Int)) := by omega
                have hkd : decide ((k : Int) < (sl.length : Int)) = false := decide_eq_false (by omega)
                have HUP3 := Lib.hid (HUP2.out.below2 HBX3.out)
                clear HLX HBX3 hkg hs32
                go_wp2_with fail
                go_roundg gko
                case measure => omega
                case rel => exact ⟨j + 1, by have := HJG.out; omega, by go_num, HUP3⟩
              · have hkI : (k : Int) < (sl.length : Int) := by omega
                obtain ⟨g9, X, hP9, hSg, hX, hXl⟩ := HLX.out.resolve_left (by show ¬ sl.length = 0; omega)
                have hP2 : ps = some ⟨g9, 0, none⟩ := hP9
                subst hP2
                have hXk : k < X.length := by have h9 : sl.length ≤ X.length := hXl; omega
                have hcx : wr.cell? ⟨g9, 0 + k, none⟩ = some X[k] := by rw [Nat.zero_add, hX.cell k, List.getElem?_eq_getElem hXk]
                have hcf : wr.frozen? ⟨g9, 0 + k, none⟩ = false := hX.frozen _
                have hcx2 : wr.cell? ⟨g9, k, none⟩ = some X[k] := by rw [hX.cell k, List.getElem?_eq_getElem hXk]
                have hcf2 : wr.frozen? ⟨g9, k, none⟩ = false := hX.frozen _
                have HNX : Hid (∀ v, LW (wr.setCell ⟨g9, k, none⟩ v) (fun q => w2'.heap.size ≤ q) ((some ⟨g9, 0, none⟩), cs, sl) ∧ Below w2'.heap.size w2' (wr.setCell ⟨g9, k, none⟩ v)) := Lib.hid fun v => ⟨HLX.out.set, HBX3.out.setCell (p := ⟨g9, k, none⟩) hSg v⟩
                obtain ⟨xk, hx0⟩ : ∃ x, X[k] = x := ⟨_, rfl⟩
                rw [hx0] at hcx hcx2
                clear hX hXl hx0 hP9 hXk hSg HLX HBX3
                go_wp2_with fail
                go_roundg gi
                case measure => omega
                case rel => exact ⟨k + 1, by omega, by go_num, (HNX.out _).1, (HNX.out _).2⟩
      · have hi : i < xs.length := by have := HN.out; omega
        have hiI : (i : Int) < (n : Int) := by omega
        have hbw := bnext HCUR.out HI.out.below
        obtain ⟨b, o, hP, k0, k1, k2, k3, k4, k5⟩ := inc_cells (inc_below HP.out hbw) i hi
        have hgx := (HG.out _ (List.getElem_mem hi)).below hbw
        have hsm := right_small (HSM.out.1 _ (List.mem_map_of_mem (List.getElem_mem hi)))
        have HST := Lib.hid (fun w5 w6 v2 y h5 hy hct hr hg => HI.out.step (w5 := w5) (w6 := w6) (v2 := v2) (y := y) hi h5 hy hct hr hg)
        obtain ⟨x, hx⟩ : ∃ x, xs[i] = x := ⟨_, rfl⟩
        rw [hx] at k0 k1 k2 k3 k4 k5 hgx hsm HST
        clear hx hbw
        obtain ⟨xid, xsec, xpub, ⟨Q3, D3, r3⟩, ⟨Q4, D4, r4⟩, ⟨Q5, D5, r5⟩⟩ := x
        simp only [tx, lval] at k0 k1 k2 k3 k4 k5
        have hr3 : r3.length ≤ 4 := hsm.red
        have hr4 : r4.length ≤ 32 := hsm.sco
        have hr5 : r5.length ≤ 3 := hsm.gra
        have HS3 : Hid (∀ W, Below wr.heap.size wr W → InS W Q3 r3) := Lib.hid fun W hW => ins_below hgx.red.row hW
        have HS4 : Hid (∀ W, Below wr.heap.size wr W → InS W Q4 r4) := Lib.hid fun W hW => ins_below hgx.sco.row hW
        have HS5 : Hid (∀ W, Below wr.heap.size wr W → InS W Q5 r5) := Lib.hid fun W hW => ins_below hgx.gra.row hW
        have hn3 : Q3 = none → D3 = 0 := hgx.red.nil
        have hn4 : Q4 = none → D4 = 0 := hgx.sco.nil
        have hn5 : Q5 = none → D5 = 0 := hgx.gra.nil
        have HNIL := Lib.hid (And.intro hn3 (And.intro hn4 hn5))
        clear hgx hsm hn3 hn4 hn5
        obtain ⟨wf, wg, hVe⟩ := var_c wr 27 (.string ⟨xid.toArray⟩) (.string ⟨xsec.toArray⟩) (.bool xpub) (.slice Q3 r3.length D3) (.slice Q4 r4.length D4) (.slice Q5 r5.length D5)
        have he1 := hVe.a
        have he2 := hVe.s
        obtain ⟨s0, s1, s2, s3, s4, s5⟩ := blk6 hVe.zero
        obtain ⟨t0, t1, t2, t3, t4, t5⟩ := frz6 hVe.zero
        obtain ⟨v0, v1, v2, v3, v4, v5⟩ := blk6 hVe.blk
        have HVB := Lib.hid hVe.blk
        have HBG := Lib.hid hVe.below
        have HSG : Hid (wg.heap.size = wr.heap.size + 1) := Lib.hid hVe.size
        clear hVe
        subst hP
        have hi70 : i < 70 := by have := HL.out; omega
        have n3 : (wg.alloc (.cells #[] 9)).cell? ⟨wr.heap.size, 3, none⟩ = some (.slice Q3 r3.length D3) := (blk_old HVB.out _).cell 3
        go_wp2_with (first
          | (at_builtin; (refine wpList_append_g senc_len (by decide) senc_one rfl (.tmp 98) (.tmp 100) 25 9 rfl Tryz.underlying25 hi0 hz0 hz1 hz2 rfl wg.heap.size (.slice (some ⟨wg.heap.size, 0, none⟩) 0 0) 0 [] rfl (own_nilS wg) Q3 r3.length D3 r3 rfl (HS3.out _ (HBG.out.alloc HBG.out.size _)) rfl HNIL.out.1 (by unfold maxLen; omega) (by omega) (by simp) ?_; intro vv3 a3 q1 q2; (obtain ⟨p3, c3, rfl, ho3, hA3, hb3⟩ := app_one HVB.out q1 q2); (clear q1 q2); (have HBA3 := Lib.hid (bnext HBG.out hb3)); (obtain ⟨x30, x31, x32, x33, x34, x35⟩ := blk6 hA3); (obtain ⟨z30, z31, z32, z33, z34, z35⟩ := frz6 hA3); (obtain ⟨b3, he3⟩ : ∃ b3, a3.setCell ⟨wr.heap.size, 3, none⟩ (.slice p3 r3.length c3) = b3 := ⟨_, rfl⟩); (have HVB3 : Hid (Blk b3 wr.heap.size 27 [.string ⟨xid.toArray⟩, .string ⟨xsec.toArray⟩, .bool xpub, .slice p3 r3.length c3, .slice Q4 r4.length D4, .slice Q5 r5.length D5]) := by (rw [← he3]; exact hA3.set 3 _)); (have HBB3 : Hid (Below wr.heap.size wr b3) := by (rw [← he3]; exact HBA3.out.setCell (p := ⟨wr.heap.size, 3, none⟩) (Nat.le_refl _) _)); (have HRW33 : Hid (b3.ownsRow (wr.heap.size + 1) 9 1 (.slice p3 r3.length c3) r3.length (cells senc r3)) := by (rw [← he3]; exact ownsRow_setCell_below (own_baseR ho3 (by have := HSG.out; have := HSG.out; omega)) (a := ⟨wr.heap.size, 3, none⟩) (by simp) _)); (have HZ3 : Hid (wr.heap.size + 1 ≤ b3.heap.size) := by (have h1 := HVB3.out.lt; exact h1)); (obtain ⟨y30, y31, y32, y33, y34, y35⟩ := blk6 HVB3.out); (have n4 : (b3.alloc (.cells #[] 9)).cell? ⟨wr.heap.size, 4, none⟩ = some (.slice Q4 r4.length D4) := (blk_old HVB3.out _).cell 4); (clear ho3 hA3 hb3)))
          | (at_builtin; (refine wpList_append_g senc_len (by decide) senc_one rfl (.tmp 103) (.tmp 105) 25 9 rfl Tryz.underlying25 hi0 hz0 hz1 hz2 rfl b3.heap.size (.slice (some ⟨b3.heap.size, 0, none⟩) 0 0) 0 [] rfl (own_nilS b3) Q4 r4.length D4 r4 rfl (HS4.out _ (HBB3.out.alloc HBB3.out.size _)) rfl HNIL.out.2.1 (by unfold maxLen; omega) (by omega) (by simp) ?_; intro vv4 a4 q1 q2; (obtain ⟨p4, c4, rfl, ho4, hA4, hb4⟩ := app_one HVB3.out q1 q2); (clear q1 q2); (have HBA4 := Lib.hid (bnext HBB3.out hb4)); (obtain ⟨x40, x41, x42, x43, x44, x45⟩ := blk6 hA4); (obtain ⟨z40, z41, z42, z43, z44, z45⟩ := frz6 hA4); (obtain ⟨b4, he4⟩ : ∃ b4, a4.setCell ⟨wr.heap.size, 4, none⟩ (.slice p4 r4.length c4) = b4 := ⟨_, rfl⟩); (have HVB4 : Hid (Blk b4 wr.heap.size 27 [.string ⟨xid.toArray⟩, .string ⟨xsec.toArray⟩, .bool xpub, .slice p3 r3.length c3, .slice p4 r4.length c4, .slice Q5 r5.length D5]) := by (rw [← he4]; exact hA4.set 4 _)); (have HBB4 : Hid (Below wr.heap.size wr b4) := by (rw [← he4]; exact HBA4.out.setCell (p := ⟨wr.heap.size, 4, none⟩) (Nat.le_refl _) _)); (have HRW44 : Hid (b4.ownsRow (wr.heap.size + 1) 9 1 (.slice p4 r4.length c4) r4.length (cells senc r4)) := by (rw [← he4]; exact ownsRow_setCell_below (own_baseR ho4 (by have := HSG.out; have := HZ3.out; omega)) (a := ⟨wr.heap.size, 4, none⟩) (by simp) _)); (have HRW34 : Hid (b4.ownsRow (wr.heap.size + 1) 9 1 (.slice p3 r3.length c3) r3.length (cells senc r3)) := by (rw [← he4]; exact ownsRow_setCell_below (own_belowG HRW33.out hb4) (a := ⟨wr.heap.size, 4, none⟩) (by simp) _)); (have HZ4 : Hid (wr.heap.size + 1 ≤ b4.heap.size) := by (have h1 := HVB4.out.lt; exact h1)); (obtain ⟨y40, y41, y42, y43, y44, y45⟩ := blk6 HVB4.out); (have n5 : (b4.alloc (.cells #[] 9)).cell? ⟨wr.heap.size, 5, none⟩ = some (.slice Q5 r5.length D5) := (blk_old HVB4.out _).cell 5); (clear ho4 hA4 hb4)))
          | (at_builtin; (refine wpList_append_g senc_len (by decide) senc_one rfl (.tmp 108) (.tmp 110) 25 9 rfl Tryz.underlying25 hi0 hz0 hz1 hz2 rfl b4.heap.size (.slice (some ⟨b4.heap.size, 0, none⟩) 0 0) 0 [] rfl (own_nilS b4) Q5 r5.length D5 r5 rfl (HS5.out _ (HBB4.out.alloc HBB4.out.size _)) rfl HNIL.out.2.2 (by unfold maxLen; omega) (by omega) (by simp) ?_; intro vv5 a5 q1 q2; (obtain ⟨p5, c5, rfl, ho5, hA5, hb5⟩ := app_one HVB4.out q1 q2); (clear q1 q2); (have HBA5 := Lib.hid (bnext HBB4.out hb5)); (obtain ⟨x50, x51, x52, x53, x54, x55⟩ := blk6 hA5); (obtain ⟨z50, z51, z52, z53, z54, z55⟩ := frz6 hA5); (obtain ⟨b5, he5⟩ : ∃ b5, a5.setCell ⟨wr.heap.size, 5, none⟩ (.slice p5 r5.length c5) = b5 := ⟨_, rfl⟩); (have HVB5 : Hid (Blk b5 wr.heap.size 27 [.string ⟨xid.toArray⟩, .string ⟨xsec.toArray⟩, .bool xpub, .slice p3 r3.length c3, .slice p4 r4.length c4, .slice p5 r5.length c5]) := by (rw [← he5]; exact hA5.set 5 _)); (have HBB5 : Hid (Below wr.heap.size wr b5) := by (rw [← he5]; exact HBA5.out.setCell (p := ⟨wr.heap.size, 5, none⟩) (Nat.le_refl _) _)); (have HRW55 : Hid (b5.ownsRow (wr.heap.size + 1) 9 1 (.slice p5 r5.length c5) r5.length (cells senc r5)) := by (rw [← he5]; exact ownsRow_setCell_below (own_baseR ho5 (by have := HSG.out; have := HZ4.out; omega)) (a := ⟨wr.heap.size, 5, none⟩) (by simp) _)); (have HRW35 : Hid (b5.ownsRow (wr.heap.size + 1) 9 1 (.slice p3 r3.length c3) r3.length (cells senc r3)) := by (rw [← he5]; exact ownsRow_setCell_below (own_belowG HRW34.out hb5) (a := ⟨wr.heap.size, 5, none⟩) (by simp) _)); (have HRW45 : Hid (b5.ownsRow (wr.heap.size + 1) 9 1 (.slice p4 r4.length c4) r4.length (cells senc r4)) := by (rw [← he5]; exact ownsRow_setCell_below (own_belowG HRW44.out hb5) (a := ⟨wr.heap.size, 5, none⟩) (by simp) _)); (have HZ5 : Hid (wr.heap.size + 1 ≤ b5.heap.size) := by (have h1 := HVB5.out.lt; exact h1)); (obtain ⟨y50, y51, y52, y53, y54, y55⟩ := blk6 HVB5.out); (clear ho5 hA5 hb5)))
          | (at_builtin; (refine wpList_append_g clenc_len (by decide) clenc_one rfl (.tmp 113) (.tmp 115) 22 27 rfl Tryz.underlying22 hj0 hy0 hy1 hy2 rfl u.heap.size u14 i (cells clenc ys) rfl (own_belowG HI.out.row (HBB5.out.alloc HBB5.out.size _)) (some ⟨b5.heap.size, 0, none⟩) 1 1 [⟨xid, xsec, xpub, ⟨p3, c3, r3⟩, ⟨p4, c4, r4⟩, ⟨p5, c5, r5⟩⟩] rfl (inc_one b5 ⟨xid, xsec, xpub, ⟨p3, c3, r3⟩, ⟨p4, c4, r4⟩, ⟨p5, c5, r5⟩⟩ _) rfl (fun h => by cases h) (by unfold maxLen; omega) (by omega) (by have := HI.out.below.size; have := HBB5.out.size; simp; omega) ?_; intro v2 w6 q1 q2; (have HI6 := Lib.hid (HST.out _ w6 v2 ⟨xid, xsec, xpub, ⟨p3, c3, r3⟩, ⟨p4, c4, r4⟩, ⟨p5, c5, r5⟩⟩ (HBB5.out.alloc HBB5.out.size _) (OwnC.below2 (OwnC.lower ⟨HRW35.out, HRW45.out, HRW55.out⟩ (Nat.le_succ _)) ((Below.refl _ _).alloc (Nat.le_refl _) _)) rfl q1 q2)); (clear q1 q2))))
        go_roundg gk
        case measure => omega
        case rel => exact ⟨i + 1, _, by omega, by go_num, HI6⟩
theorem g_rkeeps (P : Option Addr) (C : Nat) (xs : List Cm) (s : ByteArray) (w : World) (hp : InC w P xs) (hc : xs.length ≤ C) (hg : ∀ x ∈ xs, GoodC w x) (hs : s.size ≤ 1048576) :
    Calls Tryz.prog 3 #[.slice P xs.length C, .string s] w fun e w' => e = .returned (.bool true) ∧ Below w.heap.size w w' := by
  have h := rkeeps_law P C xs s.data.toList w ⟨hp, hc, hg⟩ (by rw [Array.length_toList]; exact hs)
  have e : (⟨s.data.toList.toArray⟩ : ByteArray) = s := by cases s; simp
  rw [e] at h
  exact h
end Go.Proofs.YtfeafhagnhbmiaaGreatDoor.rol
