/- PlateCrashes. -/
import Derived.Test.YtggcdlhgmikemaaPcA
namespace Go.Proofs.Ytggcdlhgmikemaa.plt
open Go.RowKit
open Go.Proofs.Ytggcdlhgmikemaa.oct Go.Proofs.Ytggcdlhgmikemaa.ref Go.Proofs.Ytggcdlhgmikemaa.rows Go.Proofs.Ytggcdlhgmikemaa.rowg Go.Proofs.Ytggcdlhgmikemaa.trn
open Go.Lib (byteCells)
open Go.Proofs.Ytggcdlhgmikemaa.opn (SP spenc spenc_len GoodS I64)

set_option maxRecDepth 100000 in
set_option maxHeartbeats 32000000 in
theorem g_crashes (P : Option Addr) (C : Nat) (l : List SP) (K : Option Addr) (CK : Nat) (ks : List Int) (w : World) (hP : InG spenc 5 w P l) (hg : ∀ x ∈ l, GoodS w x) (hK : InG ienc 1 w K ks) (hkl : ks.length ≤ 140737488355328) (hki : ∀ x ∈ ks, I64 x) (_hkc : ks.length ≤ CK) :
    Calls Try.prog 4 #[.slice P l.length C, .slice K ks.length CK] w fun e w' => e = .returned (.bool true) ∧ Below w.heap.size w w' := by
  have HP := Lib.hid hP
  have HG := Lib.hid hg
  have HK := Lib.hid hK
  have HKI := Lib.hid hki
  have HNEW := Lib.hid (St.new (Below.refl _ w) 100000 (by decide))
  have HKN := Lib.hid (fun w0 => known_c w0 w0 (Below.refl _ _))
  clear hP hg hK hki
  go_enter Try.func4, Try.ntmps4
  go_wp2_with fail
  refine HNEW.out.mono ?_
  rintro e w1 ⟨gp, rfl, hst⟩
  have HST := Lib.hid hst
  clear hst HNEW
  go_upto_block 0 with (fail)
  go_cut [] from 24 to 42 (fun wx => Hid (∃ sp, St w wx gp sp))
  case first =>
    go_wp2_with fail
    go_loopg [7] 120 (fun gk s7 wy => ∃ (i : Nat) (sp : PS), i + gk = 120 ∧ s7 = .int .i64 (i : Int) ∧ Hid (St w wy gp sp))
    case atStart => exact ⟨0, _, by omega, rfl, HST⟩
    case round =>
      obtain ⟨i, sp, hig, rfl, HS⟩ := hrel
      clear HST
      by_cases hin : i < l.length ∧ i < 120
      · obtain ⟨hin1, hin2⟩ := hin
        have j1 : (i : Int) < l.length := by omega
        have j2 : (i : Int) < 120 := by omega
        obtain ⟨b, o, rfl, hc⟩ := InG.cells (InG.below spenc_len (by decide) HP.out HS.out.below) i hin1
        have hgd := HG.out _ (List.getElem_mem hin1)
        obtain ⟨x, hx⟩ : ∃ x, l[i] = x := ⟨_, rfl⟩
        rw [hx] at hc hgd
        have HDO : Hid (Calls Try.prog 11 #[dptr gp, dptr wr.heap.size, .agg #[.int .i64 x.k, .string ⟨x.n.toArray⟩, .slice x.p x.d.length x.c, .int .i64 x.m, .slice x.q x.ks.length x.e]] (wr.alloc (.cells #[.slice none 0 0, .int .i64 0, .bool false, .int .i64 0, .bool false] 31)) fun e w2 => ∃ b : Bool, e = .returned (.bool b) ∧ St w w2 gp (doP sp x).2) := by
          refine (HS.out.do x hgd).mono ?_
          rintro e w2 ⟨⟨b, h1⟩, h2⟩
          exact ⟨b, h1, h2⟩
        have hb3 := (Below.refl wr.heap.size wr).alloc (Nat.le_refl _) (.cells #[.slice none 0 0, .int .i64 0, .bool false, .int .i64 0, .bool false] 31)
        obtain ⟨w3, hw3⟩ : ∃ w3, wr.alloc (.cells #[.slice none 0 0, .int .i64 0, .bool false, .int .i64 0, .bool false] 31) = w3 := ⟨_, rfl⟩
        rw [hw3] at HDO hb3
        have hlt := cell_lt (hc 0 (by decide))
        have d0 : w3.cell? ⟨b, o + i * 5, none⟩ = some (.int .i64 x.k) := (hb3.cell (p := ⟨b, o + i * 5, none⟩) hlt).trans (hc 0 (by decide))
        have d1 : w3.cell? ⟨b, o + i * 5 + 1, none⟩ = some (.string ⟨x.n.toArray⟩) := (hb3.cell (p := ⟨b, o + i * 5 + 1, none⟩) hlt).trans (hc 1 (by decide))
        have d2 : w3.cell? ⟨b, o + i * 5 + 2, none⟩ = some (.slice x.p x.d.length x.c) := (hb3.cell (p := ⟨b, o + i * 5 + 2, none⟩) hlt).trans (hc 2 (by decide))
        have d3 : w3.cell? ⟨b, o + i * 5 + 3, none⟩ = some (.int .i64 x.m) := (hb3.cell (p := ⟨b, o + i * 5 + 3, none⟩) hlt).trans (hc 3 (by decide))
        have d4 : w3.cell? ⟨b, o + i * 5 + 4, none⟩ = some (.slice x.q x.ks.length x.e) := (hb3.cell (p := ⟨b, o + i * 5 + 4, none⟩) hlt).trans (hc 4 (by decide))
        clear hc hx hgd hlt hb3
        go_wp2_with fail
        refine HDO.out.mono ?_
        rintro e w4 ⟨b4, rfl, hst⟩
        have HS4 := Lib.hid hst
        clear hst hw3 d0 d1 d2 d3 d4
        go_wp2_with fail
        go_roundg (gk - 1)
        case measure => omega
        case rel => exact ⟨i + 1, _, by omega, by go_num, HS4⟩
      · have HE : Hid (∃ sp, St w wr gp sp) := ⟨sp, HS.out⟩
        have hex : ¬ ((i : Int) < l.length) ∨ ((i : Int) < l.length ∧ ¬ ((i : Int) < 120)) := by omega
        clear hin HS
        rcases hex with e1 | ⟨e1, e2⟩
        all_goals
          go_wp2_with fail
          go_meet
          case rel => exact HE
  case rest =>
    obtain ⟨sp, hst⟩ := hcut.out
    have HC1 := Lib.hid (hst.copyZ (Below.refl _ _))
    clear hst hcut HST
    go_wp2_with fail
    refine HC1.out.mono ?_
    rintro e w2 ⟨⟨gq, rfl, htw⟩, _⟩
    have HC2 := Lib.hid (htw.crash_two 4611686018427387904 4611686018427387904 (by decide) (by decide))
    clear htw HC1
    go_wp2_with fail
    refine HC2.out.mono ?_
    rintro e w3 ⟨rfl, hst⟩
    have HS3 := Lib.hid hst
    have HN := Lib.hid ((hst.more ((Below.refl w3.heap.size w3).alloc (Nat.le_refl _) (.cells #[] 3))).names)
    clear hst HC2
    go_wp2_with fail
    refine HN.out.mono ?_
    rintro e w4 ⟨⟨pn, cn, rfl, hn4⟩, hb4⟩
    have HI0 := Lib.hid (CSI.start hb4 hn4)
    have hwf := HS3.out.wf
    have hfl := wf_files hwf
    have HWF := Lib.hid hwf
    obtain ⟨L, hL⟩ : ∃ L, sp.fs.length = L := ⟨_, rfl⟩
    have HL := Lib.hid hL
    rw [hL] at hfl ⊢
    obtain ⟨j0, hj, hy0, hy1, hy2⟩ := info_parts infoI64
    clear hn4 hb4 hwf hL HN
    go_wp2_with fail
    go_loopg [9, 11] L (fun gk s9 s11 wy => ∃ i : Nat, i + gk = L ∧ s11 = .int .i64 (i : Int) ∧ Hid (CSI w3 wy s9 (.slice pn sp.fs.length cn) sp i))
    case atStart => exact ⟨0, by omega, rfl, HI0⟩
    case round =>
      obtain ⟨i, hig, rfl, HI⟩ := hrel
      clear HI0
      rcases gk with _ | gk
      · obtain rfl : L = i := by omega
        have HI2 : Hid (CSI w3 wr u9 (.slice pn sp.fs.length cn) sp sp.fs.length) := by
          have h := HI.out
          show CSI _ _ _ _ _ _
          rw [← HL.out] at h
          exact h
        have HC3 := Lib.hid (HI2.out.copy HS3.out)
        have ho9 := HI.out.own
        obtain ⟨ps, cs, rfl⟩ := Go.Proofs.Ytggcdlhgmikemaa.cln.own_slice ho9
        rw [HL.out] at HC3
        clear ho9 HI HI2 HS3
        go_wp2_with fail
        refine HC3.out.mono ?_
        rintro e w5 ⟨gf, rfl, hj5⟩
        have HJ5 := Lib.hid hj5
        have HE5 : Hid (MoreI w5 (w5.alloc (.cells #[] 3)) (.slice (some ⟨w5.heap.size, 0, none⟩) 0 0) 0) :=
          ⟨(Below.refl _ _).alloc (Nat.le_refl _) _, own_emptyG (enc := ienc) (k := 1) w5 3⟩
        clear hj5 HC3
        go_wp2_with fail
        go_loopg [13, 14] L (fun gk s13 s14 wy => ∃ i : Nat, i + gk = L ∧ s14 = .int .i64 (i : Int) ∧ Hid (MoreI w5 wy s13 i))
        case atStart => exact ⟨0, by omega, rfl, HE5⟩
        case round =>
          obtain ⟨i, hig2, rfl, HM⟩ := hrel
          clear HE5
          rcases gk with _ | gk
          · obtain rfl : L = i := by omega
            obtain ⟨hbm, hom⟩ := HM.out
            obtain ⟨pm, cm, rfl⟩ := Go.Proofs.Ytggcdlhgmikemaa.cln.own_slice hom
            have HCF : Hid (Calls Try.prog 14 #[dptr gf, .slice pm L cm] wr fun e w' => e = .returned (.tuple #[]) ∧ CSJ w w' gp gf sp (crashP sp (List.replicate sp.fs.length 4611686018427387904)) sp (.slice ps L cs) (.slice pn L cn)) := by
              have h := HJ5.out.crash_full hbm pm cm (List.replicate L 4611686018427387904) (by rw [List.length_replicate]; exact hom) (by rw [List.length_replicate]; omega) (fun n hn => by rw [List.eq_of_mem_replicate hn]; decide)
              rw [List.length_replicate] at h
              show Calls _ _ _ _ _
              rw [HL.out]
              exact h
            clear hbm hom HM HJ5
            go_wp2_with fail
            refine HCF.out.mono ?_
            rintro e w6 ⟨rfl, hj6⟩
            have HCP := Lib.hid (hj6.crash_p K CK ks HK.out (by omega) HKI.out)
            clear hj6 HCF
            go_wp2_with fail
            refine HCP.out.mono ?_
            rintro e w7 ⟨rfl, hj7⟩
            have HJ7 := Lib.hid hj7
            clear hj7 HCP
            go_wp2_with fail
            refine (HKN.out _).mono ?_
            rintro e w8 ⟨rfl, hb8⟩
            have HJ8 := Lib.hid (HJ7.out.same hb8)
            have HD : Hid (Calls Try.prog 17 #[dptr gp] w8 fun e w' => e = .returned (.bool false) ∧ w8 = w') := HJ8.out.down
            clear hb8 HJ7 HKN
            go_wp2_with fail
            refine HD.out.mono ?_
            rintro e w9 ⟨rfl, rfl⟩
            clear HD
            go_wp2_with fail
            go_loopg [15, 16, 17, 18, 19] L (fun gk s15 _ _ _ _ wy => ∃ i : Nat, i + gk = L ∧ s15 = .int .i64 (i : Int) ∧ Hid (Below w8.heap.size w8 wy))
            case atStart => exact ⟨0, by omega, rfl, Below.refl _ _⟩
            case round =>
              obtain ⟨i, hig3, rfl, HB⟩ := hrel
              rcases gk with _ | gk
              · obtain rfl : L = i := by omega
                have HN9 := Lib.hid (HJ8.out.same HB.out).names
                have hle : (((crashP sp ks).fs.length : Nat) : Int) ≤ (L : Int) := by
                  have h := crashF_len sp.fs ks
                  rw [HL.out] at h
                  show (((crashF sp.fs ks).length : Nat) : Int) ≤ _
                  omega
                obtain ⟨M, hM⟩ : ∃ M, (crashP sp ks).fs.length = M := ⟨_, rfl⟩
                rw [hM] at HN9 hle
                clear hM
                go_wp2_with fail
                refine HN9.out.mono ?_
                rintro e wa ⟨⟨pa, ca, rfl⟩, hba⟩
                have HBA := Lib.hid (bnext HB.out hba)
                clear hba
                go_wp2_with fail
                go_ret
                obtain ⟨Z, htw⟩ := HJ8.out.tws
                exact ⟨rfl, bnext htw.below HBA.out⟩
              · have hiL : i < L := by omega
                have hiI : (i : Int) < (L : Int) := by omega
                have hi2 : i < sp.fs.length := by rw [HL.out]; exact hiL
                obtain ⟨b1, b2, hp1, hp2, q1, q2⟩ := HJ8.out.at HB.out i hi2
                subst hp1
                subst hp2
                obtain ⟨Z, htw⟩ := (HJ8.out.same HB.out).tws
                have hyl := (HWF.out.each _ (List.getElem_mem hi2)).2.2.2
                have hsl := (HWF.out.each _ (List.getElem_mem hi2)).2.1
                have HRF := Lib.hid (htw.swap.readC (sp.fs[i]).name (by omega))
                have hrl := read_len htw.swap.wfp (sp.fs[i]).name
                have HRC := Lib.hid (read_crash HWF.out ks i hi2)
                have HSC := Lib.hid (safe_crash HWF.out ks i hi2)
                rw [read_full HWF.out i hi2] at HRF hrl
                have HTW := Lib.hid htw
                have hko := kept_le hsl ((ks[i]?).getD 0)
                have hkn : ¬ ((i : Int) ≥ (ks.length : Int)) ∨ ((i : Int) ≥ (ks.length : Int) ∧ kept sp.fs[i] ((ks[i]?).getD 0) = (sp.fs[i]).safe) := by
                  by_cases h : i < ks.length
                  · exact Or.inl (by omega)
                  · refine Or.inr ⟨by omega, ?_⟩
                    rw [List.getElem?_eq_none (by omega)]
                    unfold kept
                    simp
                obtain ⟨y, hy⟩ : ∃ y, sp.fs[i] = y := ⟨_, rfl⟩
                rw [hy] at q1 q2 hyl hsl HRF hrl HRC HSC hko hkn
                obtain ⟨kp, hkp⟩ : ∃ kp, kept y ((ks[i]?).getD 0) = kp := ⟨_, rfl⟩
                rw [hkp] at HRC HSC hko hkn
                obtain ⟨rb, hrb⟩ : ∃ rb, y.b.take kp = rb := ⟨_, rfl⟩
                have hrbl : rb.length = kp := by rw [← hrb, List.length_take]; omega
                rw [hrb] at HRC
                rw [← hrbl] at HSC hko hkn
                have HRB := Lib.hid hrb
                have HKP := Lib.hid hrbl
                obtain ⟨sf, hsf⟩ : ∃ sf, y.safe = sf := ⟨_, rfl⟩
                rw [hsf] at q2 hsl hko hkn
                obtain ⟨nm, hnm⟩ : ∃ nm, y.name = nm := ⟨_, rfl⟩
                rw [hnm] at q1 hyl HRF HRC HSC
                obtain ⟨yb, hyb⟩ : ∃ yb, y.b = yb := ⟨_, rfl⟩
                rw [hyb] at HRF hrl hsl hko HRB
                have hk1 : ¬ ((rb.length : Int) < (sf : Int)) := by omega
                have hk2 : ¬ ((rb.length : Int) > (yb.length : Int)) := by omega
                have hk3 : ((rb.length : Int) != (rb.length : Int)) = false := by simp
                dsimp only at hrl
                clear htw hy hkp hrb hrbl hsf hnm hyb hko hsl
                go_wp2_with fail
                refine HRF.out.mono ?_
                rintro e wa ⟨pa, ca, rfl, h8a, hca, _, hba⟩
                have HRP := Lib.hid ((HTW.out.same hba).read nm (by omega))
                rw [HRC.out] at HRP
                have HWA := Lib.hid hba
                have HBA := Lib.hid (bnext HB.out hba)
                have H8A := Lib.hid h8a
                have r1 : wa.cell? ⟨b1, i, none⟩ = some (.string ⟨nm.toArray⟩) := (hba.cell (p := ⟨b1, i, none⟩) (cell_lt q1)).trans q1
                have r2 : wa.cell? ⟨b2, i, none⟩ = some (.int .i64 (sf : Nat)) := (hba.cell (p := ⟨b2, i, none⟩) (cell_lt q2)).trans q2
                clear hba h8a q1 q2 HRF
                go_wp2_with fail
                refine HRP.out.mono ?_
                rintro e wb ⟨pb, cb, rfl, h8b, hbb⟩
                have HBB := Lib.hid (bnext HBA.out hbb)
                have HWB := Lib.hid (bnext HWA.out hbb)
                have t1 : wb.cell? ⟨b1, i, none⟩ = some (.string ⟨nm.toArray⟩) := (hbb.cell (p := ⟨b1, i, none⟩) (cell_lt r1)).trans r1
                have t2 : wb.cell? ⟨b2, i, none⟩ = some (.int .i64 (sf : Nat)) := (hbb.cell (p := ⟨b2, i, none⟩) (cell_lt r2)).trans r2
                have hcc : rb.length ≤ ca := by omega
                have HSM : Hid (∀ wy, Below wb.heap.size wb wy → Calls Try.prog 19 #[.slice pb rb.length cb, .slice pa rb.length ca] wy fun e w' => e = .returned (.bool true) ∧ Below wy.heap.size wy w') := by
                  intro wy hb
                  have h1 := in8_cut ((H8A.out.below hbb).below hb) kp
                  rw [HRB.out] at h1
                  refine (rsame_c pb pa cb ca rb rb wy (h8b.below hb) h1 (by omega)).mono ?_
                  rintro e w' ⟨e1, nd, rfl⟩
                  exact ⟨by rw [e1, decide_eq_true rfl], drewN_below wy nd⟩
                have HSN : Hid (∀ wy, Below wb.heap.size wb wy → Calls Try.prog 16 #[dptr gp, .string ⟨nm.toArray⟩] wy fun e w' => e = .returned (.int .i64 (rb.length : Nat)) ∧ Below wy.heap.size wy w') := by
                  intro wy hb
                  have h1 := ((HTW.out.same HWB.out).same hb).synced nm (by omega)
                  rw [HSC.out] at h1
                  exact h1
                clear hbb h8b r1 r2 HRP hca
                rcases hkn with hkn | ⟨hkn, hkn2⟩
                · skip
                  go_wp2_with fail
                  refine (HSM.out wb (Below.refl _ _)).mono ?_
                  rintro e wc ⟨rfl, hbc⟩
                  have v1 : wc.cell? ⟨b1, i, none⟩ = some (.string ⟨nm.toArray⟩) := (hbc.cell (p := ⟨b1, i, none⟩) (cell_lt t1)).trans t1
                  have v2 : wc.cell? ⟨b2, i, none⟩ = some (.int .i64 (sf : Nat)) := (hbc.cell (p := ⟨b2, i, none⟩) (cell_lt t2)).trans t2
                  have HSV := Lib.hid (HSN.out wc hbc)
                  have HBC := Lib.hid (bnext HBB.out hbc)
                  clear hbc t1 t2
                  go_wp2_with fail
                  refine HSV.out.mono ?_
                  rintro e wd ⟨rfl, hbd⟩
                  have x2 : wd.cell? ⟨b2, i, none⟩ = some (.int .i64 (sf : Nat)) := (hbd.cell (p := ⟨b2, i, none⟩) (cell_lt v2)).trans v2
                  have HBD := Lib.hid (bnext HBC.out hbd)
                  clear hbd v1 v2
                  go_wp2_with fail
                  go_roundg gk
                  case measure => omega
                  case rel => exact ⟨i + 1, by omega, by go_num, HBD⟩
                · have hk4 : ((rb.length : Int) != (sf : Int)) = false := by rw [hkn2]; simp
                  clear hkn2
                  go_wp2_with fail
                  refine (HSM.out wb (Below.refl _ _)).mono ?_
                  rintro e wc ⟨rfl, hbc⟩
                  have v1 : wc.cell? ⟨b1, i, none⟩ = some (.string ⟨nm.toArray⟩) := (hbc.cell (p := ⟨b1, i, none⟩) (cell_lt t1)).trans t1
                  have v2 : wc.cell? ⟨b2, i, none⟩ = some (.int .i64 (sf : Nat)) := (hbc.cell (p := ⟨b2, i, none⟩) (cell_lt t2)).trans t2
                  have HSV := Lib.hid (HSN.out wc hbc)
                  have HBC := Lib.hid (bnext HBB.out hbc)
                  clear hbc t1 t2
                  go_wp2_with fail
                  refine HSV.out.mono ?_
                  rintro e wd ⟨rfl, hbd⟩
                  have x2 : wd.cell? ⟨b2, i, none⟩ = some (.int .i64 (sf : Nat)) := (hbd.cell (p := ⟨b2, i, none⟩) (cell_lt v2)).trans v2
                  have HBD := Lib.hid (bnext HBC.out hbd)
                  clear hbd v1 v2
                  go_wp2_with fail
                  go_roundg gk
                  case measure => omega
                  case rel => exact ⟨i + 1, by omega, by go_num, HBD⟩
          · have hiL : i < L := by omega
            have hiI : (i : Int) < (L : Int) := by omega
            have HOW : Hid (∀ wz, Below wr.heap.size wr wz → w5.heap.size ≤ wz.heap.size ∧ wz.ownsRow w5.heap.size 3 1 u13 i (cells ienc (List.replicate i 4611686018427387904))) := fun wz hb => ⟨Nat.le_trans HM.out.1.size hb.size, own_belowG HM.out.2 hb⟩
            go_wp2_with (first
              | (at_builtin; (refine wpList_append_g ienc_len (by decide) ienc_one rfl (.tmp 74) (.tmp 75) 34 3 rfl Try.underlying34 hj hy0 hy1 hy2 rfl w5.heap.size u13 i _ rfl (HOW.out _ ((Below.refl _ _).alloc (Nat.le_refl _) _)).2 _ 1 1 [(4611686018427387904 : Int)] rfl (i64_new wr _ _ rfl) rfl (fun h => by cases h) (by unfold maxLen; omega) (by omega) (HOW.out _ ((Below.refl _ _).alloc (Nat.le_refl _) _)).1 ?_; intro v2 w6 q2 q3; have HM6 := Lib.hid (HM.out.step ((Below.refl _ _).alloc (Nat.le_refl _) _) q2 q3); clear q2 q3))
              | go_in)
            go_roundg gk
            case measure => omega
            case rel => exact ⟨i + 1, by omega, by go_num, HM6⟩
      · have hiL : i < L := by omega
        have hiI : (i : Int) < (L : Int) := by omega
        have hi2 : i < sp.fs.length := by rw [HL.out]; exact hiL
        obtain ⟨b1, e1, q1⟩ := tenc_at (l := sp.fs.map (·.name)) (by rw [List.length_map]; exact HI.out.nam) i (by rw [List.length_map]; exact hi2)
        rw [List.getElem_map] at q1
        have hp := own_ptr HI.out.nam e1
        subst hp
        have hyl := (HWF.out.each _ (List.getElem_mem hi2)).2.2.2
        have HSY := Lib.hid ((HS3.out.more HI.out.bel).synced2 (sp.fs[i]).name (by omega))
        rw [get_at HWF.out.srt i hi2] at HSY
        have HSTEP : Hid (∀ wz w7 v2, Below wr.heap.size wr wz → w7.ownsRow w3.heap.size 3 1 v2 (i + 1) (cells ienc ((sp.fs.map fun f => (f.safe : Int)).take i) ++ cells ienc [((sp.fs[i]).safe : Int)]) → wz.grownBy w7 u9.ownBlock → CSI w3 w7 v2 (.slice (some ⟨b1, 0, none⟩) sp.fs.length cn) sp (i + 1)) := fun wz w7 v2 a b c => HI.out.step hi2 a b c
        obtain ⟨y, hy⟩ : ∃ y, sp.fs[i] = y := ⟨_, rfl⟩
        rw [hy] at q1 hyl HSY HSTEP
        obtain ⟨nm, hnm⟩ : ∃ nm, y.name = nm := ⟨_, rfl⟩
        rw [hnm] at q1 hyl HSY
        obtain ⟨sf, hsf⟩ : ∃ sf, y.safe = sf := ⟨_, rfl⟩
        rw [hsf] at HSY HSTEP
        have HOW : Hid (∀ wz, Below wr.heap.size wr wz → w3.heap.size ≤ wz.heap.size ∧ wz.ownsRow w3.heap.size 3 1 u9 i (cells ienc ((sp.fs.map fun f => (f.safe : Int)).take i))) := fun wz hb => ⟨Nat.le_trans HI.out.bel.size hb.size, own_belowG HI.out.own hb⟩
        clear hy hnm hsf e1
        go_wp2_with (first
          | (go_at_call 16; refine HSY.out.mono ?_; rintro e w5 ⟨rfl, hb5⟩; have HB5 := Lib.hid hb5; clear hb5)
          | (at_builtin; (refine wpList_append_g ienc_len (by decide) ienc_one rfl (.tmp 56) (.tmp 63) 34 3 rfl Try.underlying34 hj hy0 hy1 hy2 rfl w3.heap.size u9 i _ rfl (HOW.out _ (HB5.out.alloc HB5.out.size _)).2 _ 1 1 [(sf : Int)] rfl (i64_new w5 _ _ rfl) rfl (fun h => by cases h) (by unfold maxLen; omega) (by omega) (HOW.out _ (HB5.out.alloc HB5.out.size _)).1 ?_; intro v2 w6 q2 q3; have HI6 := Lib.hid (HSTEP.out _ w6 v2 (HB5.out.alloc HB5.out.size _) q2 q3); clear q2 q3))
          | go_in)
        go_roundg gk
        case measure => omega
        case rel => exact ⟨i + 1, by omega, by go_num, HI6⟩
end Go.Proofs.Ytggcdlhgmikemaa.plt
