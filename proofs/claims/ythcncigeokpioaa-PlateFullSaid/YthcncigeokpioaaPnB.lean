/- PlateFull. -/
import Derived.Test.YthcncigeokpioaaPnA
namespace Go.Proofs.Ythcncigeokpioaa.plt
open Go.RowKit
open Go.Proofs.Ythcncigeokpioaa.oct Go.Proofs.Ythcncigeokpioaa.ref Go.Proofs.Ythcncigeokpioaa.rows Go.Proofs.Ythcncigeokpioaa.rowg Go.Proofs.Ythcncigeokpioaa.trn
open Go.Lib (byteCells)
open Go.Proofs.Ythcncigeokpioaa.opn (SP spenc spenc_len GoodS)

theorem read_get {s : PS} {n : T} (h : (readP s n).1 = 0) : (readP s n).2 = (getF s.fs n).b := by
  unfold readP at h ⊢
  dsimp only at h ⊢
  rw [if_pos h]
set_option maxRecDepth 100000 in
set_option maxHeartbeats 32000000 in
theorem g_full (n : Int) (P : Option Addr) (C : Nat) (l : List SP) (w : World) (_hn : (Lit.int .i64 n).wf = true) (hP : InG spenc 5 w P l) (hg : ∀ x ∈ l, GoodS w x) :
    Calls Try.prog 6 #[.int .i64 n, .slice P l.length C] w fun e w' => e = .returned (.bool true) ∧ Below w.heap.size w w' := by
  have HP := Lib.hid hP
  have HG := Lib.hid hg
  obtain ⟨m, hm, hn1⟩ := umod n (n := 400) (by decide) (by decide)
  have HNEW := Lib.hid (fun W => pnew_c W m (by omega))
  have HN1 : Hid (wrap64 ((IntKind.u64.wrap n).tmod 400) = (m : Int)) := hn1
  have HKN := Lib.hid (fun w0 => known_c w0 w0 (Below.refl _ _))
  clear hP hg hn1
  go_enter Try.func6, Try.ntmps6
  go_wp2_with fail
  rw [HN1.out]
  refine (HNEW.out _).mono ?_
  rintro e w1 hnp1
  obtain ⟨gp, Rp, rfl, hpa, hRp, hb1⟩ := newpl_pa hnp1
  have HST0 : Hid (St w w1 gp (newP m)) := ⟨Rp, hpa, hRp, hb1, wf_new (by omega)⟩
  clear hnp1 hpa hRp hb1 HN1 HNEW
  go_wp2_with fail
  go_loopg [7, 8, 9, 10, 11, 12, 13, 14, 15, 16, 17, 18] 120 (fun gk s7 _ _ _ _ _ _ _ _ _ _ _ wy => ∃ (i : Nat) (sp : PS), i + gk = 120 ∧ s7 = .int .i64 (i : Int) ∧ Hid (St w wy gp sp) ∧ Hid (sp.room = m))
  case atStart => exact ⟨0, _, by omega, rfl, HST0, rfl⟩
  case round =>
    obtain ⟨i, sp, hig, rfl, HS, HRM⟩ := hrel
    clear HST0
    by_cases hin : i < l.length ∧ i < 120
    · obtain ⟨hin1, hin2⟩ := hin
      have j1 : (i : Int) < l.length := by omega
      have j2 : (i : Int) < 120 := by omega
      obtain ⟨b, o, rfl, hc⟩ := InG.cells (InG.below spenc_len (by decide) HP.out HS.out.below) i hin1
      have hgd := HG.out _ (List.getElem_mem hin1)
      obtain ⟨x, hx⟩ : ∃ x, l[i] = x := ⟨_, rfl⟩
      rw [hx] at hc hgd
      have d0 : wr.cell? ⟨b, o + i * 5, none⟩ = some (.int .i64 x.k) := hc 0 (by decide)
      have d1 : wr.cell? ⟨b, o + i * 5 + 1, none⟩ = some (.string ⟨x.n.toArray⟩) := hc 1 (by decide)
      have d2 : wr.cell? ⟨b, o + i * 5 + 2, none⟩ = some (.slice x.p x.d.length x.c) := hc 2 (by decide)
      have d3 : wr.cell? ⟨b, o + i * 5 + 3, none⟩ = some (.int .i64 x.m) := hc 3 (by decide)
      have d4 : wr.cell? ⟨b, o + i * 5 + 4, none⟩ = some (.slice x.q x.ks.length x.e) := hc 4 (by decide)
      have HGD := Lib.hid hgd
      have HCP := Lib.hid (HS.out.copy (.cells #[.int .i64 x.k, .string ⟨x.n.toArray⟩, .slice x.p x.d.length x.c, .int .i64 x.m, .slice x.q x.ks.length x.e] 36))
      have HB3 : Hid (Blk (wr.alloc (.cells #[.int .i64 x.k, .string ⟨x.n.toArray⟩, .slice x.p x.d.length x.c, .int .i64 x.m, .slice x.q x.ks.length x.e] 36)) wr.heap.size 36 (spenc x)) := blk_new wr (spenc x).toArray 36 _ rfl
      clear hc hx hgd
      obtain ⟨kb, hkb⟩ : ∃ kb, wr.heap.size = kb := ⟨_, rfl⟩
      obtain ⟨u, hu⟩ : ∃ u, usedP sp.fs = u := ⟨_, rfl⟩
      have HUU := Lib.hid hu
      have hul : u ≤ 268435456 := by
        have h1 := HS.out.wf.used
        have h2 := HS.out.wf.room
        omega
      clear hu
      rw [hkb] at HCP HB3
      obtain ⟨w3, hw3⟩ : ∃ w3, wr.alloc (.cells #[.int .i64 x.k, .string ⟨x.n.toArray⟩, .slice x.p x.d.length x.c, .int .i64 x.m, .slice x.q x.ks.length x.e] 36) = w3 := ⟨_, rfl⟩
      rw [hw3] at HCP HB3
      go_wp2_with fail
      refine HCP.out.mono ?_
      rintro e w5 ⟨gq, rfl, htw5, hb5⟩
      have HTW5 := Lib.hid htw5
      have HU5 := Lib.hid htw5.used
      rw [HUU.out] at HU5
      have hB5 := HB3.out.below hb5
      have e0 : w5.cell? ⟨kb, 0, none⟩ = some (.int .i64 x.k) := hB5.cell 0
      have e1 : w5.cell? ⟨kb, 1, none⟩ = some (.string ⟨x.n.toArray⟩) := hB5.cell 1
      have e2 : w5.cell? ⟨kb, 2, none⟩ = some (.slice x.p x.d.length x.c) := hB5.cell 2
      have e3 : w5.cell? ⟨kb, 3, none⟩ = some (.int .i64 x.m) := hB5.cell 3
      have e4 : w5.cell? ⟨kb, 4, none⟩ = some (.slice x.q x.ks.length x.e) := hB5.cell 4
      have HB5 := Lib.hid hB5
      clear htw5 hb5 hB5 HB3 HCP HS d0 d1 d2 d3 d4 hw3
      go_wp2_with fail
      refine HU5.out.mono ?_
      rintro e w6 ⟨rfl, rfl⟩
      by_cases k0 : x.k = 0
      · have hg := HGD.out
        have hdl := hg.fit
        rw [k0] at e0
        have HAP := Lib.hid (HTW5.out.runT (s2 := (appP sp x.n x.d).2) (Q := fun e => e = .returned (.int .i64 ((appP sp x.n x.d).1 : Nat))) (wf_app HTW5.out.wfp x.n x.d) (fun R lo hR hwf => pappend_c hR hwf x.n x.p x.c x.d hg.name (hg.row.below HTW5.out.below) (Nat.le_trans hg.fit (by decide)) (arg_out lo hg.row)))
        have HRM2 : Hid ((appP sp x.n x.d).2.room = m) := (app_room _ _ _).trans HRM.out
        have HBAD : Hid ((appP sp x.n x.d).1 ≠ 0 → (appP sp x.n x.d).2.fs = sp.fs) := app_bad
        have HOK : Hid ((appP sp x.n x.d).1 = 0 → usedP (appP sp x.n x.d).2.fs = u + x.d.length) := fun h => by rw [app_ok HTW5.out.wfp h, HUU.out]
        have HFUL : Hid ((appP sp x.n x.d).1 = 8 → m < u + x.d.length) := fun h => by
          have h1 := app_full h
          rw [HRM.out, HUU.out] at h1
          exact h1
        obtain ⟨s1, hs1⟩ : ∃ s1, (appP sp x.n x.d).2 = s1 := ⟨_, rfl⟩
        obtain ⟨r1, hr1⟩ : ∃ r1, (appP sp x.n x.d).1 = r1 := ⟨_, rfl⟩
        rw [hs1, hr1] at HAP HBAD HOK
        rw [hs1] at HRM2
        rw [hr1] at HFUL
        clear hs1 hr1 hg HU5
        go_wp2_with fail
        refine HAP.out.mono ?_
        rintro e w6 ⟨rfl, htw6, htu6⟩
        have hB6 := blk_turn HB5.out htu6 (fun hn => hn rfl)
        have f2A : ∀ y : After w6, y.v.cell? ⟨kb, 2, none⟩ = some (.slice x.p x.d.length x.c) := fun y => (hB6.below y.below).cell 2
        have HUA : ∀ y : After w6, Calls Try.prog 21 #[dptr gp] y.v fun e w' => e = .returned (.int .i64 (usedP s1.fs : Nat)) ∧ Below y.v.heap.size y.v w' := fun y => (htw6.same y.below).used.mono fun e w' h => ⟨h.1, by rw [← h.2]; exact Below.refl _ _⟩
        have C3 := Lib.hid (fun y : After w6 => after_of y (HUA y))
        clear HUA
        have HTW6 := Lib.hid htw6
        obtain ⟨v, hv⟩ : ∃ v, u + x.d.length = v := ⟨_, rfl⟩
        have hwr : IntKind.i64.wrap ((u : Int) + (x.d.length : Int)) = (v : Int) := by rw [IntKind.wrap_i64]; omega
        have hnv : ((v : Int) != (v : Int)) = false := by simp
        rw [hv] at HOK HFUL
        have h3 : (r1 = 0 ∧ ((r1 : Int) == 0) = true ∧ ((r1 : Int) == 8) = false ∧ usedP s1.fs = v ∧ (¬ ((v : Int) ≤ (m : Int)) ∨ True)) ∨ (r1 = 8 ∧ ((r1 : Int) == 0) = false ∧ ((r1 : Int) == 8) = true ∧ usedP s1.fs = usedP s1.fs ∧ (¬ ((v : Int) ≤ (m : Int)) ∨ False)) ∨ (r1 ≠ 0 ∧ ((r1 : Int) == 0) = false ∧ ((r1 : Int) == 8) = false ∧ usedP s1.fs = usedP s1.fs ∧ (¬ ((v : Int) ≤ (m : Int)) ∨ True)) := by
          by_cases r0 : r1 = 0
          · exact Or.inl ⟨r0, by simp [r0], by simp [r0], HOK.out r0, Or.inr trivial⟩
          · by_cases r8 : r1 = 8
            · exact Or.inr (Or.inl ⟨r8, by simp [r8], by simp [r8], rfl, Or.inl (by have := HFUL.out r8; omega)⟩)
            · exact Or.inr (Or.inr ⟨r0, by simp [r0], by simp; omega, rfl, Or.inr trivial⟩)
        clear htw6 htu6 hB6 HAP HOK HFUL hv HTW5 HB5
        rcases h3 with ⟨r0, q0, q8, hus1, _⟩ | ⟨r0, q0, q8, _, hle⟩ | ⟨r0, q0, q8, _, _⟩
        · rw [hus1] at C3
          clear hus1
          go_wp2_with fail
          refine wp_region_after (by kernel_rfl) (by kernel_rfl) ?_
          repeat (go_big_quiet_step (first
            | (rename_i y; go_at_call 21; with_reducible exact C3.out y)))
          refine wpQuiet_nil ?_
          rintro ⟨w7, hb7⟩
          dsimp only
          have HTW7 := Lib.hid (HTW6.out.more (Z2 := fun _ => False) hb7 (fun k e => e.elim))
          clear hb7 C3 f2A HTW6 q0 q8 r0
          have HBB7 := Lib.hid HTW7.out.below
          have HN := Lib.hid HTW7.out.names
          go_wp2_with fail
          refine HN.out.mono ?_
          rintro e w8 ⟨⟨p8, c8, rfl, ho8⟩, hb8⟩
          have ht8 := HTW7.out.more (Z2 := fun k => (Value.slice p8 s1.fs.length c8).ownBlock = some k) hb8 (fun k hk => Or.inr (ho8.lt k hk))
          have HAR := Lib.hid (ht8.runT (s2 := armP s1 (-1)) (Q := fun e => e = .returned (.tuple #[])) (wf_arm ht8.wfp _) (f := 20) (P := Try.prog) (args := #[dptr gp, .int .i64 (-1)]) fun R _ hR _ => parm_p hR (-1) (by omega) (by omega))
          have HO8 := Lib.hid ho8
          clear hb8 ho8 ht8 HN
          go_wp2_with fail
          refine HAR.out.mono ?_
          rintro e w9 ⟨rfl, ht9, htu⟩
          have ho9 := own_turn HO8.out htu (fun b hb hn => hn hb)
          have HT9 := Lib.hid (ht9.more (Z2 := fun _ => False) (Below.refl _ _) (fun k e => e.elim))
          have HFS2 := arm_fs s1 (-1)
          have HRM3 : Hid ((armP s1 (-1)).room = m) := (arm_room s1 (-1)).trans HRM2.out
          have HBAD2 : Hid (r1 ≠ 0 → (armP s1 (-1)).fs = sp.fs) := fun h => HFS2.trans (HBAD.out h)
          rw [← HFS2] at ho9 ⊢
          obtain ⟨s2, hs2⟩ : ∃ s2, armP s1 (-1) = s2 := ⟨_, rfl⟩
          rw [hs2] at ho9 HT9 HRM3 HBAD2 ⊢
          clear ht9 htu HAR HO8 HFS2 hs2 HBAD HRM2 HTW7
          have HWF := Lib.hid HT9.out.wfp
          have hus : usedP s2.fs ≤ m := by rw [← HRM3.out]; exact HWF.out.used
          obtain ⟨L, hL⟩ : ∃ L, s2.fs.length = L := ⟨_, rfl⟩
          have HL := Lib.hid hL
          have hLs : L ≤ 268435456 := by rw [← hL]; exact wf_files HWF.out
          rw [hL] at ho9 ⊢
          have HO9 := Lib.hid ho9
          obtain ⟨u2, hu2⟩ : ∃ u2, usedP s2.fs = u2 := ⟨_, rfl⟩
          rw [hu2] at hus
          have HU2 := Lib.hid hu2
          clear ho9 hL hu2
          have HAT : Hid (∀ wy, Below w9.heap.size w9 wy → ∀ i (hi : i < L), ∃ (y : F) (b1 : Nat), y ∈ s2.fs ∧ sumR s2 (i + 1) = sumR s2 i + (readP s2 y.name).2.length ∧ p8 = some ⟨b1, 0, none⟩ ∧ wy.cell? ⟨b1, i, none⟩ = some (.string ⟨y.name.toArray⟩)) := by
            intro wy hb i hi
            have hi1 : i < s2.fs.length := by rw [HL.out]; exact hi
            have hl : (s2.fs.map (·.name)).length = L := by rw [List.length_map]; exact HL.out
            have hi2 : i < (s2.fs.map (·.name)).length := by rw [hl]; exact hi
            obtain ⟨b1, e1, q1⟩ := tenc_at (l := s2.fs.map (·.name)) (by rw [hl]; exact own_belowG HO9.out hb) i hi2
            rw [List.getElem_map] at q1
            refine ⟨s2.fs[i], b1, List.getElem_mem hi1, sumR_succ s2 i hi1, ?_, q1⟩
            rcases HO9.out.2 with ⟨h1, _⟩ | ⟨gg, cap, cur, h1, _⟩
            · rw [h1] at e1; cases e1
            · injection h1 with h1
              subst h1
              injection e1 with e1
              subst e1
              rfl
          clear HO9
          go_wp2_with fail
          obtain ⟨g0, hg0⟩ : ∃ g0, g0 = gk := ⟨gk, rfl⟩
          go_loopg [12, 14, 15, 16, 17, 18] L (fun gk s12 s14 _ _ _ _ wy => ∃ i2 : Nat, i2 + gk = L ∧ s14 = .int .i64 (i2 : Int) ∧ s12 = .int .i64 (sumR s2 i2 : Nat) ∧ Hid (Below w9.heap.size w9 wy))
          case atStart => exact ⟨0, by omega, rfl, by rw [sumR_zero]; rfl, Below.refl _ _⟩
          case round =>
            obtain ⟨i2, hig2, rfl, rfl, HB⟩ := hrel
            rcases gk with _ | gj
            · obtain rfl : i2 = L := by omega
              have HTR := Lib.hid (HT9.out.same HB.out)
              have HD := Lib.hid HTR.out.down
              have HUS := Lib.hid HTR.out.used
              rw [HU2.out] at HUS
              have hsr : s2.down = false → sumR s2 i2 = u2 := fun h => by rw [← HL.out, sumR_all HWF.out h, HU2.out]
              have hgt : ¬ ((u2 : Int) > (m : Int)) := by omega
              have HSP : Hid (St w wr gp s2) := HTR.out.st
              cases hd : s2.down with
              | true =>
                rw [hd] at HD
                clear hsr
                go_wp2_with fail
                refine HD.out.mono ?_
                rintro e wz ⟨rfl, rfl⟩
                go_wp2_with fail
                refine HUS.out.mono ?_
                rintro e wz ⟨rfl, rfl⟩
                go_wp2_with fail
                go_roundg (g0 - 1)
                case measure => omega
                case rel => exact ⟨i + 1, s2, by omega, by go_num, HSP, HRM3⟩
              | false =>
                rw [hd] at HD
                rw [hsr hd]
                have hnn : ((u2 : Int) != (u2 : Int)) = false := by simp
                clear hsr
                go_wp2_with fail
                refine HD.out.mono ?_
                rintro e wz ⟨rfl, rfl⟩
                go_wp2_with fail
                refine HUS.out.mono ?_
                rintro e wz ⟨rfl, rfl⟩
                go_wp2_with fail
                refine HUS.out.mono ?_
                rintro e wz ⟨rfl, rfl⟩
                go_wp2_with fail
                go_roundg (g0 - 1)
                case measure => omega
                case rel => exact ⟨i + 1, s2, by omega, by go_num, HSP, HRM3⟩
            · have hiL : i2 < L := by omega
              have hiI : (i2 : Int) < (L : Int) := by omega
              obtain ⟨y, b1, hy, hsum, hp8, q1⟩ := HAT.out wr HB.out i2 hiL
              subst hp8
              have hyl := (HWF.out.each y hy).2.2.2
              have HTR := Lib.hid (HT9.out.same HB.out)
              have HR1 := Lib.hid (HTR.out.read y.name (by omega))
              have hlr := read_len HWF.out y.name
              have hF : (readP s2 y.name).1 = 9 ∨ (readP s2 y.name).1 = 0 := by
                rw [read_file HWF.out hy]
                split
                · exact Or.inl rfl
                · exact Or.inr rfl
              have HEQ : Hid (r1 ≠ 0 → (readP s2 y.name).1 = 0 → (readP sp y.name).1 = 0 → (readP s2 y.name).2 = (readP sp y.name).2) := fun h1 h2 h3 => by rw [read_get h2, read_get h3, HBAD2.out h1]
              have hle := sumR_le HWF.out (i2 + 1)
              rw [HU2.out] at hle
              obtain ⟨nm, hnm⟩ : ∃ nm, y.name = nm := ⟨_, rfl⟩
              rw [hnm] at hsum q1 hyl HR1 hlr hF HEQ
              obtain ⟨rb, hrb⟩ : ∃ rb, (readP s2 nm).2 = rb := ⟨_, rfl⟩
              obtain ⟨rc, hrc⟩ : ∃ rc, (readP sp nm).2 = rc := ⟨_, rfl⟩
              obtain ⟨ff, hff⟩ : ∃ ff, (readP s2 nm).1 = ff := ⟨_, rfl⟩
              obtain ⟨gg, hgg⟩ : ∃ gg, (readP sp nm).1 = gg := ⟨_, rfl⟩
              rw [hrb, hff] at HR1
              rw [hrb, hff, hgg, hrc] at HEQ
              rw [hff] at hF
              rw [hrb] at hlr hsum
              have HRC := Lib.hid hrc
              have HGG := Lib.hid hgg
              obtain ⟨a1, ha1⟩ : ∃ a1, sumR s2 i2 = a1 := ⟨_, rfl⟩
              obtain ⟨a2, ha2⟩ : ∃ a2, sumR s2 (i2 + 1) = a2 := ⟨_, rfl⟩
              rw [ha1, ha2] at hsum
              rw [ha2] at hle
              rw [ha1]
              have HA2 := Lib.hid ha2
              have hwra : IntKind.i64.wrap ((a1 : Int) + (rb.length : Int)) = (a2 : Int) := by rw [IntKind.wrap_i64]; omega
              clear hrb hrc hff hgg ha1 ha2 hnm hy hsum HAT
              go_wp2_with fail
              refine HR1.out.mono ?_
              rintro e wa ⟨pa2, ca2, rfl, h8a, hba⟩
              have HTS := Lib.hid (HTR.out.same hba)
              have HR2 := Lib.hid (HTS.out.swap.read nm (by omega))
              rw [HRC.out, HGG.out] at HR2
              have HBA := Lib.hid (bnext HB.out hba)
              have H8A := Lib.hid h8a
              have r1c : wa.cell? ⟨b1, i2, none⟩ = some (.string ⟨nm.toArray⟩) := (hba.cell (p := ⟨b1, i2, none⟩) (cell_lt q1)).trans q1
              clear hba h8a q1 HR1
              go_wp2_with fail
              refine HR2.out.mono ?_
              rintro e wb ⟨pb2, cb2, rfl, h8b, hbb⟩
              have HBB := Lib.hid (bnext HBA.out hbb)
              have H8B := Lib.hid h8b
              have H8C := Lib.hid (H8A.out.below hbb)
              clear hbb h8b r1c HR2
              rcases hF with f9 | f0
              · have hf1 : ((ff : Int) != 0) = true := by simp [f9]
                have hf2 : ((ff : Int) != 9) = false := by simp [f9]
                clear f9 HEQ
                go_wp2_with fail
                go_roundg gj
                case measure => omega
                case rel => exact ⟨i2 + 1, by omega, by go_num, by rw [HA2.out], HBB⟩
              · have hf1 : ((ff : Int) != 0) = false := by simp [f0]
                clear f0 HEQ
                go_wp2_with fail
                go_roundg gj
                case measure => omega
                case rel => exact ⟨i2 + 1, by omega, by go_num, by rw [HA2.out], HBB⟩
        · have hle2 : ¬ ((v : Int) ≤ (m : Int)) := hle.elim id False.elim
          have HZ : Hid (r1 ≠ 0) := by show r1 ≠ 0; omega
          clear hle
          go_wp2_with fail
          refine wp_region_after (by kernel_rfl) (by kernel_rfl) ?_
          repeat (go_big_quiet_step (fail))
          refine wpQuiet_nil ?_
          rintro ⟨w7, hb7⟩
          dsimp only
          have HTW7 := Lib.hid (HTW6.out.more (Z2 := fun _ => False) hb7 (fun k e => e.elim))
          clear hb7 C3 f2A HTW6 q0 q8 r0
          have HBB7 := Lib.hid HTW7.out.below
          have HN := Lib.hid HTW7.out.names
          go_wp2_with fail
          refine HN.out.mono ?_
          rintro e w8 ⟨⟨p8, c8, rfl, ho8⟩, hb8⟩
          have ht8 := HTW7.out.more (Z2 := fun k => (Value.slice p8 s1.fs.length c8).ownBlock = some k) hb8 (fun k hk => Or.inr (ho8.lt k hk))
          have HAR := Lib.hid (ht8.runT (s2 := armP s1 (-1)) (Q := fun e => e = .returned (.tuple #[])) (wf_arm ht8.wfp _) (f := 20) (P := Try.prog) (args := #[dptr gp, .int .i64 (-1)]) fun R _ hR _ => parm_p hR (-1) (by omega) (by omega))
          have HO8 := Lib.hid ho8
          clear hb8 ho8 ht8 HN
          go_wp2_with fail
          refine HAR.out.mono ?_
          rintro e w9 ⟨rfl, ht9, htu⟩
          have ho9 := own_turn HO8.out htu (fun b hb hn => hn hb)
          have HT9 := Lib.hid (ht9.more (Z2 := fun _ => False) (Below.refl _ _) (fun k e => e.elim))
          have HFS2 := arm_fs s1 (-1)
          have HRM3 : Hid ((armP s1 (-1)).room = m) := (arm_room s1 (-1)).trans HRM2.out
          have HBAD2 : Hid (r1 ≠ 0 → (armP s1 (-1)).fs = sp.fs) := fun h => HFS2.trans (HBAD.out h)
          rw [← HFS2] at ho9 ⊢
          obtain ⟨s2, hs2⟩ : ∃ s2, armP s1 (-1) = s2 := ⟨_, rfl⟩
          rw [hs2] at ho9 HT9 HRM3 HBAD2 ⊢
          clear ht9 htu HAR HO8 HFS2 hs2 HBAD HRM2 HTW7
          have HWF := Lib.hid HT9.out.wfp
          have hus : usedP s2.fs ≤ m := by rw [← HRM3.out]; exact HWF.out.used
          obtain ⟨L, hL⟩ : ∃ L, s2.fs.length = L := ⟨_, rfl⟩
          have HL := Lib.hid hL
          have hLs : L ≤ 268435456 := by rw [← hL]; exact wf_files HWF.out
          rw [hL] at ho9 ⊢
          have HO9 := Lib.hid ho9
          obtain ⟨u2, hu2⟩ : ∃ u2, usedP s2.fs = u2 := ⟨_, rfl⟩
          rw [hu2] at hus
          have HU2 := Lib.hid hu2
          clear ho9 hL hu2
          have HAT : Hid (∀ wy, Below w9.heap.size w9 wy → ∀ i (hi : i < L), ∃ (y : F) (b1 : Nat), y ∈ s2.fs ∧ sumR s2 (i + 1) = sumR s2 i + (readP s2 y.name).2.length ∧ p8 = some ⟨b1, 0, none⟩ ∧ wy.cell? ⟨b1, i, none⟩ = some (.string ⟨y.name.toArray⟩)) := by
            intro wy hb i hi
            have hi1 : i < s2.fs.length := by rw [HL.out]; exact hi
            have hl : (s2.fs.map (·.name)).length = L := by rw [List.length_map]; exact HL.out
            have hi2 : i < (s2.fs.map (·.name)).length := by rw [hl]; exact hi
            obtain ⟨b1, e1, q1⟩ := tenc_at (l := s2.fs.map (·.name)) (by rw [hl]; exact own_belowG HO9.out hb) i hi2
            rw [List.getElem_map] at q1
            refine ⟨s2.fs[i], b1, List.getElem_mem hi1, sumR_succ s2 i hi1, ?_, q1⟩
            rcases HO9.out.2 with ⟨h1, _⟩ | ⟨gg, cap, cur, h1, _⟩
            · rw [h1] at e1; cases e1
            · injection h1 with h1
              subst h1
              injection e1 with e1
              subst e1
              rfl
          clear HO9
          go_wp2_with fail
          obtain ⟨g0, hg0⟩ : ∃ g0, g0 = gk := ⟨gk, rfl⟩
          go_loopg [12, 14, 15, 16, 17, 18] L (fun gk s12 s14 _ _ _ _ wy => ∃ i2 : Nat, i2 + gk = L ∧ s14 = .int .i64 (i2 : Int) ∧ s12 = .int .i64 (sumR s2 i2 : Nat) ∧ Hid (Below w9.heap.size w9 wy))
          case atStart => exact ⟨0, by omega, rfl, by rw [sumR_zero]; rfl, Below.refl _ _⟩
          case round =>
            obtain ⟨i2, hig2, rfl, rfl, HB⟩ := hrel
            rcases gk with _ | gj
            · obtain rfl : i2 = L := by omega
              have HTR := Lib.hid (HT9.out.same HB.out)
              have HD := Lib.hid HTR.out.down
              have HUS := Lib.hid HTR.out.used
              rw [HU2.out] at HUS
              have hsr : s2.down = false → sumR s2 i2 = u2 := fun h => by rw [← HL.out, sumR_all HWF.out h, HU2.out]
              have hgt : ¬ ((u2 : Int) > (m : Int)) := by omega
              have HSP : Hid (St w wr gp s2) := HTR.out.st
              cases hd : s2.down with
              | true =>
                rw [hd] at HD
                clear hsr
                go_wp2_with fail
                refine HD.out.mono ?_
                rintro e wz ⟨rfl, rfl⟩
                go_wp2_with fail
                refine HUS.out.mono ?_
                rintro e wz ⟨rfl, rfl⟩
                go_wp2_with fail
                go_roundg (g0 - 1)
                case measure => omega
                case rel => exact ⟨i + 1, s2, by omega, by go_num, HSP, HRM3⟩
              | false =>
                rw [hd] at HD
                rw [hsr hd]
                have hnn : ((u2 : Int) != (u2 : Int)) = false := by simp
                clear hsr
                go_wp2_with fail
                refine HD.out.mono ?_
                rintro e wz ⟨rfl, rfl⟩
                go_wp2_with fail
                refine HUS.out.mono ?_
                rintro e wz ⟨rfl, rfl⟩
                go_wp2_with fail
                refine HUS.out.mono ?_
                rintro e wz ⟨rfl, rfl⟩
                go_wp2_with fail
                go_roundg (g0 - 1)
                case measure => omega
                case rel => exact ⟨i + 1, s2, by omega, by go_num, HSP, HRM3⟩
            · have hiL : i2 < L := by omega
              have hiI : (i2 : Int) < (L : Int) := by omega
              obtain ⟨y, b1, hy, hsum, hp8, q1⟩ := HAT.out wr HB.out i2 hiL
              subst hp8
              have hyl := (HWF.out.each y hy).2.2.2
              have HTR := Lib.hid (HT9.out.same HB.out)
              have HR1 := Lib.hid (HTR.out.read y.name (by omega))
              have hlr := read_len HWF.out y.name
              have hF : (readP s2 y.name).1 = 9 ∨ (readP s2 y.name).1 = 0 := by
                rw [read_file HWF.out hy]
                split
                · exact Or.inl rfl
                · exact Or.inr rfl
              have HEQ : Hid (r1 ≠ 0 → (readP s2 y.name).1 = 0 → (readP sp y.name).1 = 0 → (readP s2 y.name).2 = (readP sp y.name).2) := fun h1 h2 h3 => by rw [read_get h2, read_get h3, HBAD2.out h1]
              have hle := sumR_le HWF.out (i2 + 1)
              rw [HU2.out] at hle
              obtain ⟨nm, hnm⟩ : ∃ nm, y.name = nm := ⟨_, rfl⟩
              rw [hnm] at hsum q1 hyl HR1 hlr hF HEQ
              obtain ⟨rb, hrb⟩ : ∃ rb, (readP s2 nm).2 = rb := ⟨_, rfl⟩
              obtain ⟨rc, hrc⟩ : ∃ rc, (readP sp nm).2 = rc := ⟨_, rfl⟩
              obtain ⟨ff, hff⟩ : ∃ ff, (readP s2 nm).1 = ff := ⟨_, rfl⟩
              obtain ⟨gg, hgg⟩ : ∃ gg, (readP sp nm).1 = gg := ⟨_, rfl⟩
              rw [hrb, hff] at HR1
              rw [hrb, hff, hgg, hrc] at HEQ
              rw [hff] at hF
              rw [hrb] at hlr hsum
              have HRC := Lib.hid hrc
              have HGG := Lib.hid hgg
              obtain ⟨a1, ha1⟩ : ∃ a1, sumR s2 i2 = a1 := ⟨_, rfl⟩
              obtain ⟨a2, ha2⟩ : ∃ a2, sumR s2 (i2 + 1) = a2 := ⟨_, rfl⟩
              rw [ha1, ha2] at hsum
              rw [ha2] at hle
              rw [ha1]
              have HA2 := Lib.hid ha2
              have hwra : IntKind.i64.wrap ((a1 : Int) + (rb.length : Int)) = (a2 : Int) := by rw [IntKind.wrap_i64]; omega
              clear hrb hrc hff hgg ha1 ha2 hnm hy hsum HAT
              go_wp2_with fail
              refine HR1.out.mono ?_
              rintro e wa ⟨pa2, ca2, rfl, h8a, hba⟩
              have HTS := Lib.hid (HTR.out.same hba)
              have HR2 := Lib.hid (HTS.out.swap.read nm (by omega))
              rw [HRC.out, HGG.out] at HR2
              have HBA := Lib.hid (bnext HB.out hba)
              have H8A := Lib.hid h8a
              have r1c : wa.cell? ⟨b1, i2, none⟩ = some (.string ⟨nm.toArray⟩) := (hba.cell (p := ⟨b1, i2, none⟩) (cell_lt q1)).trans q1
              clear hba h8a q1 HR1
              go_wp2_with fail
              refine HR2.out.mono ?_
              rintro e wb ⟨pb2, cb2, rfl, h8b, hbb⟩
              have HBB := Lib.hid (bnext HBA.out hbb)
              have H8B := Lib.hid h8b
              have H8C := Lib.hid (H8A.out.below hbb)
              clear hbb h8b r1c HR2
              rcases hF with f9 | f0
              · have hf1 : ((ff : Int) != 0) = true := by simp [f9]
                have hf2 : ((ff : Int) != 9) = false := by simp [f9]
                have hf3 : ((ff : Int) == 0) = false := by simp [f9]
                clear f9 HEQ
                by_cases hg : gg = 0
                · have hg0 : ((gg : Int) == 0) = true := by simp [hg]
                  clear hg
                  go_wp2_with fail
                  go_roundg gj
                  case measure => omega
                  case rel => exact ⟨i2 + 1, by omega, by go_num, by rw [HA2.out], HBB⟩
                · have hg0 : ((gg : Int) == 0) = false := by simp [hg]
                  clear hg
                  go_wp2_with fail
                  go_roundg gj
                  case measure => omega
                  case rel => exact ⟨i2 + 1, by omega, by go_num, by rw [HA2.out], HBB⟩
              · have hf1 : ((ff : Int) != 0) = false := by simp [f0]
                have hf3 : ((ff : Int) == 0) = true := by simp [f0]
                by_cases hg : gg = 0
                · have hrr := HEQ.out HZ.out f0 hg
                  have hg0 : ((gg : Int) == 0) = true := by simp [hg]
                  have HSM : Hid (Calls Try.prog 19 #[.slice pa2 rb.length ca2, .slice pb2 rc.length cb2] wb fun e w' => e = .returned (.bool true) ∧ Below wb.heap.size wb w') := by
                    show Calls _ _ _ _ _
                    rw [← hrr]
                    refine (rsame_c pa2 pb2 ca2 cb2 rb rb wb H8C.out (by rw [hrr]; exact H8B.out) (by omega)).mono ?_
                    rintro e w' ⟨e1, nd, rfl⟩
                    exact ⟨by rw [e1, decide_eq_true rfl], drewN_below wb nd⟩
                  clear hrr hg f0
                  go_wp2_with fail
                  refine HSM.out.mono ?_
                  rintro e wc ⟨rfl, hbc⟩
                  have HBC := Lib.hid (bnext HBB.out hbc)
                  clear hbc
                  go_wp2_with fail
                  go_roundg gj
                  case measure => omega
                  case rel => exact ⟨i2 + 1, by omega, by go_num, by rw [HA2.out], HBC⟩
                · have hg0 : ((gg : Int) == 0) = false := by simp [hg]
                  clear hg f0
                  go_wp2_with fail
                  go_roundg gj
                  case measure => omega
                  case rel => exact ⟨i2 + 1, by omega, by go_num, by rw [HA2.out], HBB⟩
        · have HZ : Hid (r1 ≠ 0) := r0
          have he : ((r1 : Int) != 0) = true := by simp [r0]
          clear r0
          go_wp2_with fail
          refine wp_region_after (by kernel_rfl) (by kernel_rfl) ?_
          repeat (go_big_quiet_step (fail))
          refine wpQuiet_nil ?_
          rintro ⟨w7, hb7⟩
          dsimp only
          have HTW7 := Lib.hid (HTW6.out.more (Z2 := fun _ => False) hb7 (fun k e => e.elim))
          clear hb7 C3 f2A HTW6 q0 q8
          have HBB7 := Lib.hid HTW7.out.below
          have HN := Lib.hid HTW7.out.names
          go_wp2_with fail
          refine HN.out.mono ?_
          rintro e w8 ⟨⟨p8, c8, rfl, ho8⟩, hb8⟩
          have ht8 := HTW7.out.more (Z2 := fun k => (Value.slice p8 s1.fs.length c8).ownBlock = some k) hb8 (fun k hk => Or.inr (ho8.lt k hk))
          have HAR := Lib.hid (ht8.runT (s2 := armP s1 (-1)) (Q := fun e => e = .returned (.tuple #[])) (wf_arm ht8.wfp _) (f := 20) (P := Try.prog) (args := #[dptr gp, .int .i64 (-1)]) fun R _ hR _ => parm_p hR (-1) (by omega) (by omega))
          have HO8 := Lib.hid ho8
          clear hb8 ho8 ht8 HN
          go_wp2_with fail
          refine HAR.out.mono ?_
          rintro e w9 ⟨rfl, ht9, htu⟩
          have ho9 := own_turn HO8.out htu (fun b hb hn => hn hb)
          have HT9 := Lib.hid (ht9.more (Z2 := fun _ => False) (Below.refl _ _) (fun k e => e.elim))
          have HFS2 := arm_fs s1 (-1)
          have HRM3 : Hid ((armP s1 (-1)).room = m) := (arm_room s1 (-1)).trans HRM2.out
          have HBAD2 : Hid (r1 ≠ 0 → (armP s1 (-1)).fs = sp.fs) := fun h => HFS2.trans (HBAD.out h)
          rw [← HFS2] at ho9 ⊢
          obtain ⟨s2, hs2⟩ : ∃ s2, armP s1 (-1) = s2 := ⟨_, rfl⟩
          rw [hs2] at ho9 HT9 HRM3 HBAD2 ⊢
          clear ht9 htu HAR HO8 HFS2 hs2 HBAD HRM2 HTW7
          have HWF := Lib.hid HT9.out.wfp
          have hus : usedP s2.fs ≤ m := by rw [← HRM3.out]; exact HWF.out.used
          obtain ⟨L, hL⟩ : ∃ L, s2.fs.length = L := ⟨_, rfl⟩
          have HL := Lib.hid hL
          have hLs : L ≤ 268435456 := by rw [← hL]; exact wf_files HWF.out
          rw [hL] at ho9 ⊢
          have HO9 := Lib.hid ho9
          obtain ⟨u2, hu2⟩ : ∃ u2, usedP s2.fs = u2 := ⟨_, rfl⟩
          rw [hu2] at hus
          have HU2 := Lib.hid hu2
          clear ho9 hL hu2
          have HAT : Hid (∀ wy, Below w9.heap.size w9 wy → ∀ i (hi : i < L), ∃ (y : F) (b1 : Nat), y ∈ s2.fs ∧ sumR s2 (i + 1) = sumR s2 i + (readP s2 y.name).2.length ∧ p8 = some ⟨b1, 0, none⟩ ∧ wy.cell? ⟨b1, i, none⟩ = some (.string ⟨y.name.toArray⟩)) := by
            intro wy hb i hi
            have hi1 : i < s2.fs.length := by rw [HL.out]; exact hi
            have hl : (s2.fs.map (·.name)).length = L := by rw [List.length_map]; exact HL.out
            have hi2 : i < (s2.fs.map (·.name)).length := by rw [hl]; exact hi
            obtain ⟨b1, e1, q1⟩ := tenc_at (l := s2.fs.map (·.name)) (by rw [hl]; exact own_belowG HO9.out hb) i hi2
            rw [List.getElem_map] at q1
            refine ⟨s2.fs[i], b1, List.getElem_mem hi1, sumR_succ s2 i hi1, ?_, q1⟩
            rcases HO9.out.2 with ⟨h1, _⟩ | ⟨gg, cap, cur, h1, _⟩
            · rw [h1] at e1; cases e1
            · injection h1 with h1
              subst h1
              injection e1 with e1
              subst e1
              rfl
          clear HO9
          go_wp2_with fail
          obtain ⟨g0, hg0⟩ : ∃ g0, g0 = gk := ⟨gk, rfl⟩
          go_loopg [12, 14, 15, 16, 17, 18] L (fun gk s12 s14 _ _ _ _ wy => ∃ i2 : Nat, i2 + gk = L ∧ s14 = .int .i64 (i2 : Int) ∧ s12 = .int .i64 (sumR s2 i2 : Nat) ∧ Hid (Below w9.heap.size w9 wy))
          case atStart => exact ⟨0, by omega, rfl, by rw [sumR_zero]; rfl, Below.refl _ _⟩
          case round =>
            obtain ⟨i2, hig2, rfl, rfl, HB⟩ := hrel
            rcases gk with _ | gj
            · obtain rfl : i2 = L := by omega
              have HTR := Lib.hid (HT9.out.same HB.out)
              have HD := Lib.hid HTR.out.down
              have HUS := Lib.hid HTR.out.used
              rw [HU2.out] at HUS
              have hsr : s2.down = false → sumR s2 i2 = u2 := fun h => by rw [← HL.out, sumR_all HWF.out h, HU2.out]
              have hgt : ¬ ((u2 : Int) > (m : Int)) := by omega
              have HSP : Hid (St w wr gp s2) := HTR.out.st
              cases hd : s2.down with
              | true =>
                rw [hd] at HD
                clear hsr
                go_wp2_with fail
                refine HD.out.mono ?_
                rintro e wz ⟨rfl, rfl⟩
                go_wp2_with fail
                refine HUS.out.mono ?_
                rintro e wz ⟨rfl, rfl⟩
                go_wp2_with fail
                go_roundg (g0 - 1)
                case measure => omega
                case rel => exact ⟨i + 1, s2, by omega, by go_num, HSP, HRM3⟩
              | false =>
                rw [hd] at HD
                rw [hsr hd]
                have hnn : ((u2 : Int) != (u2 : Int)) = false := by simp
                clear hsr
                go_wp2_with fail
                refine HD.out.mono ?_
                rintro e wz ⟨rfl, rfl⟩
                go_wp2_with fail
                refine HUS.out.mono ?_
                rintro e wz ⟨rfl, rfl⟩
                go_wp2_with fail
                refine HUS.out.mono ?_
                rintro e wz ⟨rfl, rfl⟩
                go_wp2_with fail
                go_roundg (g0 - 1)
                case measure => omega
                case rel => exact ⟨i + 1, s2, by omega, by go_num, HSP, HRM3⟩
            · have hiL : i2 < L := by omega
              have hiI : (i2 : Int) < (L : Int) := by omega
              obtain ⟨y, b1, hy, hsum, hp8, q1⟩ := HAT.out wr HB.out i2 hiL
              subst hp8
              have hyl := (HWF.out.each y hy).2.2.2
              have HTR := Lib.hid (HT9.out.same HB.out)
              have HR1 := Lib.hid (HTR.out.read y.name (by omega))
              have hlr := read_len HWF.out y.name
              have hF : (readP s2 y.name).1 = 9 ∨ (readP s2 y.name).1 = 0 := by
                rw [read_file HWF.out hy]
                split
                · exact Or.inl rfl
                · exact Or.inr rfl
              have HEQ : Hid (r1 ≠ 0 → (readP s2 y.name).1 = 0 → (readP sp y.name).1 = 0 → (readP s2 y.name).2 = (readP sp y.name).2) := fun h1 h2 h3 => by rw [read_get h2, read_get h3, HBAD2.out h1]
              have hle := sumR_le HWF.out (i2 + 1)
              rw [HU2.out] at hle
              obtain ⟨nm, hnm⟩ : ∃ nm, y.name = nm := ⟨_, rfl⟩
              rw [hnm] at hsum q1 hyl HR1 hlr hF HEQ
              obtain ⟨rb, hrb⟩ : ∃ rb, (readP s2 nm).2 = rb := ⟨_, rfl⟩
              obtain ⟨rc, hrc⟩ : ∃ rc, (readP sp nm).2 = rc := ⟨_, rfl⟩
              obtain ⟨ff, hff⟩ : ∃ ff, (readP s2 nm).1 = ff := ⟨_, rfl⟩
              obtain ⟨gg, hgg⟩ : ∃ gg, (readP sp nm).1 = gg := ⟨_, rfl⟩
              rw [hrb, hff] at HR1
              rw [hrb, hff, hgg, hrc] at HEQ
              rw [hff] at hF
              rw [hrb] at hlr hsum
              have HRC := Lib.hid hrc
              have HGG := Lib.hid hgg
              obtain ⟨a1, ha1⟩ : ∃ a1, sumR s2 i2 = a1 := ⟨_, rfl⟩
              obtain ⟨a2, ha2⟩ : ∃ a2, sumR s2 (i2 + 1) = a2 := ⟨_, rfl⟩
              rw [ha1, ha2] at hsum
              rw [ha2] at hle
              rw [ha1]
              have HA2 := Lib.hid ha2
              have hwra : IntKind.i64.wrap ((a1 : Int) + (rb.length : Int)) = (a2 : Int) := by rw [IntKind.wrap_i64]; omega
              clear hrb hrc hff hgg ha1 ha2 hnm hy hsum HAT
              go_wp2_with fail
              refine HR1.out.mono ?_
              rintro e wa ⟨pa2, ca2, rfl, h8a, hba⟩
              have HTS := Lib.hid (HTR.out.same hba)
              have HR2 := Lib.hid (HTS.out.swap.read nm (by omega))
              rw [HRC.out, HGG.out] at HR2
              have HBA := Lib.hid (bnext HB.out hba)
              have H8A := Lib.hid h8a
              have r1c : wa.cell? ⟨b1, i2, none⟩ = some (.string ⟨nm.toArray⟩) := (hba.cell (p := ⟨b1, i2, none⟩) (cell_lt q1)).trans q1
              clear hba h8a q1 HR1
              go_wp2_with fail
              refine HR2.out.mono ?_
              rintro e wb ⟨pb2, cb2, rfl, h8b, hbb⟩
              have HBB := Lib.hid (bnext HBA.out hbb)
              have H8B := Lib.hid h8b
              have H8C := Lib.hid (H8A.out.below hbb)
              clear hbb h8b r1c HR2
              rcases hF with f9 | f0
              · have hf1 : ((ff : Int) != 0) = true := by simp [f9]
                have hf2 : ((ff : Int) != 9) = false := by simp [f9]
                have hf3 : ((ff : Int) == 0) = false := by simp [f9]
                clear f9 HEQ
                by_cases hg : gg = 0
                · have hg0 : ((gg : Int) == 0) = true := by simp [hg]
                  clear hg
                  go_wp2_with fail
                  go_roundg gj
                  case measure => omega
                  case rel => exact ⟨i2 + 1, by omega, by go_num, by rw [HA2.out], HBB⟩
                · have hg0 : ((gg : Int) == 0) = false := by simp [hg]
                  clear hg
                  go_wp2_with fail
                  go_roundg gj
                  case measure => omega
                  case rel => exact ⟨i2 + 1, by omega, by go_num, by rw [HA2.out], HBB⟩
              · have hf1 : ((ff : Int) != 0) = false := by simp [f0]
                have hf3 : ((ff : Int) == 0) = true := by simp [f0]
                by_cases hg : gg = 0
                · have hrr := HEQ.out HZ.out f0 hg
                  have hg0 : ((gg : Int) == 0) = true := by simp [hg]
                  have HSM : Hid (Calls Try.prog 19 #[.slice pa2 rb.length ca2, .slice pb2 rc.length cb2] wb fun e w' => e = .returned (.bool true) ∧ Below wb.heap.size wb w') := by
                    show Calls _ _ _ _ _
                    rw [← hrr]
                    refine (rsame_c pa2 pb2 ca2 cb2 rb rb wb H8C.out (by rw [hrr]; exact H8B.out) (by omega)).mono ?_
                    rintro e w' ⟨e1, nd, rfl⟩
                    exact ⟨by rw [e1, decide_eq_true rfl], drewN_below wb nd⟩
                  clear hrr hg f0
                  go_wp2_with fail
                  refine HSM.out.mono ?_
                  rintro e wc ⟨rfl, hbc⟩
                  have HBC := Lib.hid (bnext HBB.out hbc)
                  clear hbc
                  go_wp2_with fail
                  go_roundg gj
                  case measure => omega
                  case rel => exact ⟨i2 + 1, by omega, by go_num, by rw [HA2.out], HBC⟩
                · have hg0 : ((gg : Int) == 0) = false := by simp [hg]
                  clear hg f0
                  go_wp2_with fail
                  go_roundg gj
                  case measure => omega
                  case rel => exact ⟨i2 + 1, by omega, by go_num, by rw [HA2.out], HBB⟩
      · have hg := HGD.out
        have k1 : (x.k == 0) = false := by simp [k0]
        have b6 := (Below.refl w5.heap.size w5).alloc (Nat.le_refl _) (.cells (rzero 0) 31)
        have r6 := rb_new w5 0
        have s6 : (w5.alloc (.cells (rzero 0) 31)).heap.size = w5.heap.size + 1 := by simp
        have t6 := HTW5.out.more (Z2 := fun k => k = kb ∨ k = w5.heap.size) b6 (fun k hk => hk.elim Or.inl (fun e => Or.inr ⟨by omega, by omega⟩))
        have hws := HTW5.out.below.size
        obtain ⟨w6, hw6⟩ : ∃ w6, w5.alloc (.cells (rzero 0) 31) = w6 := ⟨_, rfl⟩
        obtain ⟨gx, hgx⟩ : ∃ gx, w5.heap.size = gx := ⟨_, rfl⟩
        rw [hw6] at b6 r6 t6
        rw [hgx] at r6 t6 hws
        have hB6 := HB5.out.below b6
        have z0 : w6.cell? ⟨kb, 0, none⟩ = some (.int .i64 x.k) := hB6.cell 0
        have z1 : w6.cell? ⟨kb, 1, none⟩ = some (.string ⟨x.n.toArray⟩) := hB6.cell 1
        have z2 : w6.cell? ⟨kb, 2, none⟩ = some (.slice x.p x.d.length x.c) := hB6.cell 2
        have z3 : w6.cell? ⟨kb, 3, none⟩ = some (.int .i64 x.m) := hB6.cell 3
        have z4 : w6.cell? ⟨kb, 4, none⟩ = some (.slice x.q x.ks.length x.e) := hB6.cell 4
        have HDO : Hid (Calls Try.prog 11 #[dptr gp, dptr gx, .agg #[.int .i64 x.k, .string ⟨x.n.toArray⟩, .slice x.p x.d.length x.c, .int .i64 x.m, .slice x.q x.ks.length x.e]] w6 fun e w2 => ∃ b : Bool, e = .returned (.bool b) ∧ TW w w2 gp gq (doP sp x).2 sp (fun _ => False)) := by
          refine (t6.do r6 (Or.inr rfl) hws (wf_new (by decide)) x hg).mono ?_
          rintro e w2 ⟨⟨b, h1⟩, h2, h3⟩
          exact ⟨b, h1, h2.more (Below.refl _ _) fun k hk => hk.elim⟩
        have hw6' : w5.alloc (.cells #[.slice none 0 0, .int .i64 0, .bool false, .int .i64 0, .bool false] 31) = w6 := hw6
        have HRM2 : Hid ((doP sp x).2.room = m) := (do_room _ _).trans HRM.out
        obtain ⟨s1, hs1⟩ : ∃ s1, (doP sp x).2 = s1 := ⟨_, rfl⟩
        rw [hs1] at HDO HRM2
        obtain ⟨r1, hr1⟩ : ∃ r1 : Nat, r1 = 0 := ⟨0, rfl⟩
        have HBAD : Hid (r1 ≠ 0 → s1.fs = sp.fs) := fun h => absurd hr1 h
        clear hs1 hr1 hg HU5 b6 r6 t6 hB6 hw6 s6 hws
        go_wp2_with fail
        refine HDO.out.mono ?_
        rintro e w7 ⟨bb, rfl, htw7⟩
        have HTW7 := Lib.hid htw7
        clear htw7 HDO z0 z1 z2 z3 z4 e0 e1 e2 e3 e4 hw6' HTW5 HB5
        have HBB7 := Lib.hid HTW7.out.below
        have HN := Lib.hid HTW7.out.names
        go_wp2_with fail
        refine HN.out.mono ?_
        rintro e w8 ⟨⟨p8, c8, rfl, ho8⟩, hb8⟩
        have ht8 := HTW7.out.more (Z2 := fun k => (Value.slice p8 s1.fs.length c8).ownBlock = some k) hb8 (fun k hk => Or.inr (ho8.lt k hk))
        have HAR := Lib.hid (ht8.runT (s2 := armP s1 (-1)) (Q := fun e => e = .returned (.tuple #[])) (wf_arm ht8.wfp _) (f := 20) (P := Try.prog) (args := #[dptr gp, .int .i64 (-1)]) fun R _ hR _ => parm_p hR (-1) (by omega) (by omega))
        have HO8 := Lib.hid ho8
        clear hb8 ho8 ht8 HN
        go_wp2_with fail
        refine HAR.out.mono ?_
        rintro e w9 ⟨rfl, ht9, htu⟩
        have ho9 := own_turn HO8.out htu (fun b hb hn => hn hb)
        have HT9 := Lib.hid (ht9.more (Z2 := fun _ => False) (Below.refl _ _) (fun k e => e.elim))
        have HFS2 := arm_fs s1 (-1)
        have HRM3 : Hid ((armP s1 (-1)).room = m) := (arm_room s1 (-1)).trans HRM2.out
        have HBAD2 : Hid (r1 ≠ 0 → (armP s1 (-1)).fs = sp.fs) := fun h => HFS2.trans (HBAD.out h)
        rw [← HFS2] at ho9 ⊢
        obtain ⟨s2, hs2⟩ : ∃ s2, armP s1 (-1) = s2 := ⟨_, rfl⟩
        rw [hs2] at ho9 HT9 HRM3 HBAD2 ⊢
        clear ht9 htu HAR HO8 HFS2 hs2 HBAD HRM2 HTW7
        have HWF := Lib.hid HT9.out.wfp
        have hus : usedP s2.fs ≤ m := by rw [← HRM3.out]; exact HWF.out.used
        obtain ⟨L, hL⟩ : ∃ L, s2.fs.length = L := ⟨_, rfl⟩
        have HL := Lib.hid hL
        have hLs : L ≤ 268435456 := by rw [← hL]; exact wf_files HWF.out
        rw [hL] at ho9 ⊢
        have HO9 := Lib.hid ho9
        obtain ⟨u2, hu2⟩ : ∃ u2, usedP s2.fs = u2 := ⟨_, rfl⟩
        rw [hu2] at hus
        have HU2 := Lib.hid hu2
        clear ho9 hL hu2
        have HAT : Hid (∀ wy, Below w9.heap.size w9 wy → ∀ i (hi : i < L), ∃ (y : F) (b1 : Nat), y ∈ s2.fs ∧ sumR s2 (i + 1) = sumR s2 i + (readP s2 y.name).2.length ∧ p8 = some ⟨b1, 0, none⟩ ∧ wy.cell? ⟨b1, i, none⟩ = some (.string ⟨y.name.toArray⟩)) := by
          intro wy hb i hi
          have hi1 : i < s2.fs.length := by rw [HL.out]; exact hi
          have hl : (s2.fs.map (·.name)).length = L := by rw [List.length_map]; exact HL.out
          have hi2 : i < (s2.fs.map (·.name)).length := by rw [hl]; exact hi
          obtain ⟨b1, e1, q1⟩ := tenc_at (l := s2.fs.map (·.name)) (by rw [hl]; exact own_belowG HO9.out hb) i hi2
          rw [List.getElem_map] at q1
          refine ⟨s2.fs[i], b1, List.getElem_mem hi1, sumR_succ s2 i hi1, ?_, q1⟩
          rcases HO9.out.2 with ⟨h1, _⟩ | ⟨gg, cap, cur, h1, _⟩
          · rw [h1] at e1; cases e1
          · injection h1 with h1
            subst h1
            injection e1 with e1
            subst e1
            rfl
        clear HO9
        go_wp2_with fail
        obtain ⟨g0, hg0⟩ : ∃ g0, g0 = gk := ⟨gk, rfl⟩
        go_loopg [12, 14, 15, 16, 17, 18] L (fun gk s12 s14 _ _ _ _ wy => ∃ i2 : Nat, i2 + gk = L ∧ s14 = .int .i64 (i2 : Int) ∧ s12 = .int .i64 (sumR s2 i2 : Nat) ∧ Hid (Below w9.heap.size w9 wy))
        case atStart => exact ⟨0, by omega, rfl, by rw [sumR_zero]; rfl, Below.refl _ _⟩
        case round =>
          obtain ⟨i2, hig2, rfl, rfl, HB⟩ := hrel
          rcases gk with _ | gj
          · obtain rfl : i2 = L := by omega
            have HTR := Lib.hid (HT9.out.same HB.out)
            have HD := Lib.hid HTR.out.down
            have HUS := Lib.hid HTR.out.used
            rw [HU2.out] at HUS
            have hsr : s2.down = false → sumR s2 i2 = u2 := fun h => by rw [← HL.out, sumR_all HWF.out h, HU2.out]
            have hgt : ¬ ((u2 : Int) > (m : Int)) := by omega
            have HSP : Hid (St w wr gp s2) := HTR.out.st
            cases hd : s2.down with
            | true =>
              rw [hd] at HD
              clear hsr
              go_wp2_with fail
              refine HD.out.mono ?_
              rintro e wz ⟨rfl, rfl⟩
              go_wp2_with fail
              refine HUS.out.mono ?_
              rintro e wz ⟨rfl, rfl⟩
              go_wp2_with fail
              go_roundg (g0 - 1)
              case measure => omega
              case rel => exact ⟨i + 1, s2, by omega, by go_num, HSP, HRM3⟩
            | false =>
              rw [hd] at HD
              rw [hsr hd]
              have hnn : ((u2 : Int) != (u2 : Int)) = false := by simp
              clear hsr
              go_wp2_with fail
              refine HD.out.mono ?_
              rintro e wz ⟨rfl, rfl⟩
              go_wp2_with fail
              refine HUS.out.mono ?_
              rintro e wz ⟨rfl, rfl⟩
              go_wp2_with fail
              refine HUS.out.mono ?_
              rintro e wz ⟨rfl, rfl⟩
              go_wp2_with fail
              go_roundg (g0 - 1)
              case measure => omega
              case rel => exact ⟨i + 1, s2, by omega, by go_num, HSP, HRM3⟩
          · have hiL : i2 < L := by omega
            have hiI : (i2 : Int) < (L : Int) := by omega
            obtain ⟨y, b1, hy, hsum, hp8, q1⟩ := HAT.out wr HB.out i2 hiL
            subst hp8
            have hyl := (HWF.out.each y hy).2.2.2
            have HTR := Lib.hid (HT9.out.same HB.out)
            have HR1 := Lib.hid (HTR.out.read y.name (by omega))
            have hlr := read_len HWF.out y.name
            have hF : (readP s2 y.name).1 = 9 ∨ (readP s2 y.name).1 = 0 := by
              rw [read_file HWF.out hy]
              split
              · exact Or.inl rfl
              · exact Or.inr rfl
            have HEQ : Hid (r1 ≠ 0 → (readP s2 y.name).1 = 0 → (readP sp y.name).1 = 0 → (readP s2 y.name).2 = (readP sp y.name).2) := fun h1 h2 h3 => by rw [read_get h2, read_get h3, HBAD2.out h1]
            have hle := sumR_le HWF.out (i2 + 1)
            rw [HU2.out] at hle
            obtain ⟨nm, hnm⟩ : ∃ nm, y.name = nm := ⟨_, rfl⟩
            rw [hnm] at hsum q1 hyl HR1 hlr hF HEQ
            obtain ⟨rb, hrb⟩ : ∃ rb, (readP s2 nm).2 = rb := ⟨_, rfl⟩
            obtain ⟨rc, hrc⟩ : ∃ rc, (readP sp nm).2 = rc := ⟨_, rfl⟩
            obtain ⟨ff, hff⟩ : ∃ ff, (readP s2 nm).1 = ff := ⟨_, rfl⟩
            obtain ⟨gg, hgg⟩ : ∃ gg, (readP sp nm).1 = gg := ⟨_, rfl⟩
            rw [hrb, hff] at HR1
            rw [hrb, hff, hgg, hrc] at HEQ
            rw [hff] at hF
            rw [hrb] at hlr hsum
            have HRC := Lib.hid hrc
            have HGG := Lib.hid hgg
            obtain ⟨a1, ha1⟩ : ∃ a1, sumR s2 i2 = a1 := ⟨_, rfl⟩
            obtain ⟨a2, ha2⟩ : ∃ a2, sumR s2 (i2 + 1) = a2 := ⟨_, rfl⟩
            rw [ha1, ha2] at hsum
            rw [ha2] at hle
            rw [ha1]
            have HA2 := Lib.hid ha2
            have hwra : IntKind.i64.wrap ((a1 : Int) + (rb.length : Int)) = (a2 : Int) := by rw [IntKind.wrap_i64]; omega
            clear hrb hrc hff hgg ha1 ha2 hnm hy hsum HAT
            go_wp2_with fail
            refine HR1.out.mono ?_
            rintro e wa ⟨pa2, ca2, rfl, h8a, hba⟩
            have HTS := Lib.hid (HTR.out.same hba)
            have HR2 := Lib.hid (HTS.out.swap.read nm (by omega))
            rw [HRC.out, HGG.out] at HR2
            have HBA := Lib.hid (bnext HB.out hba)
            have H8A := Lib.hid h8a
            have r1c : wa.cell? ⟨b1, i2, none⟩ = some (.string ⟨nm.toArray⟩) := (hba.cell (p := ⟨b1, i2, none⟩) (cell_lt q1)).trans q1
            clear hba h8a q1 HR1
            go_wp2_with fail
            refine HR2.out.mono ?_
            rintro e wb ⟨pb2, cb2, rfl, h8b, hbb⟩
            have HBB := Lib.hid (bnext HBA.out hbb)
            have H8B := Lib.hid h8b
            have H8C := Lib.hid (H8A.out.below hbb)
            clear hbb h8b r1c HR2
            rcases hF with f9 | f0
            · have hf1 : ((ff : Int) != 0) = true := by simp [f9]
              have hf2 : ((ff : Int) != 9) = false := by simp [f9]
              clear f9 HEQ
              go_wp2_with fail
              go_roundg gj
              case measure => omega
              case rel => exact ⟨i2 + 1, by omega, by go_num, by rw [HA2.out], HBB⟩
            · have hf1 : ((ff : Int) != 0) = false := by simp [f0]
              clear f0 HEQ
              go_wp2_with fail
              go_roundg gj
              case measure => omega
              case rel => exact ⟨i2 + 1, by omega, by go_num, by rw [HA2.out], HBB⟩
    · have hex : ¬ ((i : Int) < l.length) ∨ ((i : Int) < l.length ∧ ¬ ((i : Int) < 120)) := by omega
      have HBW := Lib.hid HS.out.below
      clear hin HS
      rcases hex with e1 | ⟨e1, e2⟩
      all_goals
        go_wp2_with fail
        refine (HKN.out _).mono ?_
        rintro e w3 ⟨rfl, hb3⟩
        have HB3 := Lib.hid (bnext HBW.out hb3)
        clear hb3
        go_wp2_with fail
        go_ret
        exact ⟨rfl, HB3.out⟩
end Go.Proofs.Ythcncigeokpioaa.plt
