/- The developers' look (written by tools/gen_grh.py). No condition beyond what slices and texts are. -/
import Derived.Test.YthagdkipipldlaaGreatDoorGrl
import Derived.Deep.RegionHeld3
namespace Go.Proofs.YthagdkipipldlaaGreatDoor.gra
open Go.RowKit
open Go.Proofs.YthagdkipipldlaaGreatDoor.oct Go.Proofs.YthagdkipipldlaaGreatDoor.ref Go.Proofs.YthagdkipipldlaaGreatDoor.rows Go.Proofs.YthagdkipipldlaaGreatDoor.rowg Go.Proofs.YthagdkipipldlaaGreatDoor.mpt Go.Proofs.YthagdkipipldlaaGreatDoor.trn Go.Proofs.YthagdkipipldlaaGreatDoor.krd
open Go.Proofs.YthagdkipipldlaaGreatDoor.sha (Tabs)
open Go.Proofs.YthagdkipipldlaaGreatDoor.scp (tx senc senc_len senc_one InS ins_below ins_cell ins_one lt Lst lval lenc GoodL FitS RowA own_good infoStr clone_c key_txt skeyed withinP)

set_option maxRecDepth 100000 in
set_option maxHeartbeats 16000000 in
theorem look_c {w : World} {R : Nat → Prop} {g m room : Nat} {D : DataW Nat} {fl : List DF} (h : BM w R g m D fl room) (hall : ∀ x ∈ fl, RT x.f) (x : CM) (hx : GoodC w x) (hm : MayT x.c) (hk : x.c.kind = 6) :
    Calls Tryz.prog 93 #[dptr g, cval x] w fun e w' => DoA w w' R g room (specG room (fl.map DF.f) x.c) e := by
  have hpr := PR.mk2 w x #[.int .i64 x.c.kind, .string ⟨x.c.fam.toArray⟩, .int .i64 x.c.ser, .int .i64 x.c.tok, .string ⟨x.c.cl.toArray⟩, .string ⟨x.c.us.toArray⟩, .slice x.p x.c.sc.length x.r, .string ⟨x.c.re.toArray⟩, .string ⟨x.c.ch.toArray⟩, .string ⟨x.c.me.toArray⟩, .string ⟨x.c.ve.toArray⟩, .bool x.c.rf, .int .i64 x.c.edge] #[.int .i64 0, .int .i64 0, .int .i64 0, .slice none 0 0, .string ⟨#[]⟩, .string ⟨#[]⟩, .bool false, .bool false] rfl rfl
  obtain ⟨w2, hw2⟩ : ∃ w2, (w.alloc (.cells #[.int .i64 x.c.kind, .string ⟨x.c.fam.toArray⟩, .int .i64 x.c.ser, .int .i64 x.c.tok, .string ⟨x.c.cl.toArray⟩, .string ⟨x.c.us.toArray⟩, .slice x.p x.c.sc.length x.r, .string ⟨x.c.re.toArray⟩, .string ⟨x.c.ch.toArray⟩, .string ⟨x.c.me.toArray⟩, .string ⟨x.c.ve.toArray⟩, .bool x.c.rf, .int .i64 x.c.edge] 48)).alloc (.cells #[.int .i64 0, .int .i64 0, .int .i64 0, .slice none 0 0, .string ⟨#[]⟩, .string ⟨#[]⟩, .bool false, .bool false] 59) = w2 := ⟨_, rfl⟩
  rw [hw2] at hpr
  have HPR := Lib.hid hpr
  have HM := Lib.hid h
  have HALL := Lib.hid hall
  have HM2 := Lib.hid (h.below hpr.bel)
  have HXX := Lib.hid hx
  have HMM := Lib.hid hm
  have HKK := Lib.hid hk
  have HRF : Hid (∀ (k : Int) W, Calls Tryz.prog 59 #[.int .i64 k] W fun e w' => e = .returned (.agg #[.int .i64 k, .int .i64 0, .int .i64 0, .slice none 0 0, .string ⟨#[]⟩, .string ⟨#[]⟩, .bool false, .bool false]) ∧ Below W.heap.size W w') := Lib.hid fun k W => refusal_c k W
  have HL2 : Hid (w.heap.size + 1 < w2.heap.size) := hpr.ans.lt
  have HB0 : Hid (Below w2.heap.size w2 w2) := Lib.hid (Below.refl _ _)
  obtain ⟨k0, k1, k2, k3, k4, k5, k6, k7, k8, k9, k10, k11, k12⟩ := hpr.cells (Below.refl _ _)
  obtain ⟨z0, z1, z2, z3, z4, z5, z6, z7, f0, f1, f2, f3, f4, f5, f6, f7⟩ := ans_cells hpr.ans
  show Calls _ _ #[dptr g, .agg #[.int .i64 x.c.kind, .string ⟨x.c.fam.toArray⟩, .int .i64 x.c.ser, .int .i64 x.c.tok, .string ⟨x.c.cl.toArray⟩, .string ⟨x.c.us.toArray⟩, .slice x.p x.c.sc.length x.r, .string ⟨x.c.re.toArray⟩, .string ⟨x.c.ch.toArray⟩, .string ⟨x.c.me.toArray⟩, .string ⟨x.c.ve.toArray⟩, .bool x.c.rf, .int .i64 x.c.edge]] w _
  have hfl : x.c.fam.length ≤ 140737488351232 := hx.fam
  have HLV := Lib.hid (living_c HM2.out x.c.fam hfl)
  cases hlv : liveD fl x.c.fam with
  | none =>
    rw [hlv] at HLV
    have HSP : Hid (specG room (fl.map DF.f) x.c = (fl.map DF.f, no 0)) := by
      cases hg : getD fl x.c.fam with
      | none => exact spec_same h hg fun b => by unfold stepG; rw [if_neg (by omega), if_neg (by omega), if_neg (by omega), if_neg (by omega), if_neg (by omega), if_pos hk]; rfl
      | some o =>
        have hrv : o.rev = true := by
          unfold liveD at hlv
          rw [hg] at hlv
          dsimp only at hlv
          cases ho : o.rev with
          | true => rfl
          | false => rw [ho] at hlv; simp at hlv
        exact spec_same h hg fun b => by unfold stepG; rw [if_neg (by omega), if_neg (by omega), if_neg (by omega), if_neg (by omega), if_neg (by omega), if_pos hk]; show (if o.f.rev = true then _ else _) = _; rw [show o.f.rev = true from hrv]; rfl
    rw [HSP.out]
    unfold optr at HLV
    dsimp only at HLV
    clear h hall hx hm hk hpr hfl hlv
    go_enter Tryz.func93, Tryz.ntmps93
    go_wp2_with (first
      | (go_at_call 108; (with_reducible refine HLV.out.mono ?_); rintro e w3 ⟨rfl, hw3⟩; obtain rfl : w2 = w3 := hw3.symm)
      | fail)
    have HB4 := HB0
    refine bodyPost_ret (results_blk Tryz.results93 _ _ (w.heap.size + 1) 59 [.int .i64 0, .int .i64 0, .int .i64 0, .slice none 0 0, .string ⟨#[]⟩, .string ⟨#[]⟩, .bool false, .bool false] _ rfl (set8_blk (HPR.out.ans.below HB4.out) (.int .i64 0) (.int .i64 0) (.int .i64 0) (.slice none 0 0) (.string ⟨#[]⟩) (.string ⟨#[]⟩) (.bool false) (.bool false)) Tryz.underlying59 rfl infoAn) rfl ?_
    exact fin_same HM.out HALL.out (bnext HPR.out.bel HB4.out) (Nat.lt_of_lt_of_le HL2.out HB4.out.size) (no 0) rfl _ _ _ _ _ _ _ _
  | some o =>
    rw [hlv] at HLV
    have hgo : getD fl x.c.fam = some o ∧ o.rev = false := by
      unfold liveD at hlv
      cases hg : getD fl x.c.fam with
      | none => rw [hg] at hlv; cases hlv
      | some u =>
        rw [hg] at hlv
        dsimp only at hlv
        cases hu : u.rev with
        | true => rw [hu] at hlv; simp at hlv
        | false =>
          rw [hu] at hlv
          simp at hlv
          subst hlv
          exact ⟨rfl, hu⟩
    obtain ⟨hg, hrv⟩ := hgo
    obtain ⟨hom, hoi⟩ := getD_in hg
    have HFO := Lib.hid (HM2.out.fams o hom)
    have HOM := Lib.hid (And.intro hom hoi)
    have HRO := Lib.hid (hall o hom)
    obtain ⟨d0, d1, d2, d3, d4, d5, d6, d7, d8, d9, d10⟩ := cellsF HFO.out.blk
    unfold optr at HLV
    dsimp only at HLV
    have hrf : o.f.rev = false := hrv
    unfold tx at d0 d1 d2 d4 d5 d6
    unfold lval at d3
    unfold DF.tv at d8
    unfold DF.lv at d10
    have hgw : o.g < w.heap.size := (HM.out.fams o hom).blk.lt
    have hfew : o.tk.length ≤ 8 := by
      have h := HRO.out.few
      have h2 : o.f.tk.length = o.tk.length := List.length_map ..
      omega
    have HTK := Lib.hid (token_c (HM2.out.fams o hom) (by omega) x.c.tok x.c.ser)
    have hnr : ¬ o.f.rev = true := by rw [hrf]; simp
    cases htk : tokG o.f x.c.tok x.c.ser with
    | none =>
      have HSP := Lib.hid (spec_same (room := room) h hg (a := no 0) fun b => by unfold stepG; rw [if_neg (by omega), if_neg (by omega), if_neg (by omega), if_neg (by omega), if_neg (by omega), if_pos hk]; show (if o.f.rev = true then _ else match tokG o.f x.c.tok x.c.ser with | none => _ | some t => _) = _; rw [if_neg hnr, htk]; rfl)
      rw [HSP.out]
      have HT0 : Hid (Calls Tryz.prog 111 #[dptr o.g, .int .i64 x.c.tok, .int .i64 x.c.ser] w2 fun e w' => e = .returned (.pointer none) ∧ w' = w2) := HTK.out.mono fun e w' ⟨h1, h2⟩ => by
        rcases h1 with ⟨_, h1⟩ | ⟨_, _, _, _, _, _, _, h3, _⟩
        · exact ⟨h1, h2⟩
        · rw [htk] at h3; cases h3
      clear h hall hx hm hk hpr hfl hg hrv hom hoi hlv hrf hnr htk HTK
      go_enter Tryz.func93, Tryz.ntmps93
      go_wp2_with (first
        | (go_at_call 108; (with_reducible refine HLV.out.mono ?_); rintro e w3 ⟨rfl, hw3⟩; obtain rfl : w2 = w3 := hw3.symm)
        | (go_at_call 111; (with_reducible refine HT0.out.mono ?_); rintro e w3 ⟨rfl, hw3⟩; obtain rfl : w2 = w3 := hw3.symm)
        | fail)
      have HB4 := HB0
      refine bodyPost_ret (results_blk Tryz.results93 _ _ (w.heap.size + 1) 59 [.int .i64 0, .int .i64 0, .int .i64 0, .slice none 0 0, .string ⟨#[]⟩, .string ⟨#[]⟩, .bool false, .bool false] _ rfl (set8_blk (HPR.out.ans.below HB4.out) (.int .i64 0) (.int .i64 0) (.int .i64 0) (.slice none 0 0) (.string ⟨#[]⟩) (.string ⟨#[]⟩) (.bool false) (.bool false)) Tryz.underlying59 rfl infoAn) rfl ?_
      exact fin_same HM.out HALL.out (bnext HPR.out.bel HB4.out) (Nat.lt_of_lt_of_le HL2.out HB4.out.size) (no 0) rfl _ _ _ _ _ _ _ _
    | some it =>
      obtain ⟨i, b, t, hx1, hx2, hx3, hx4, hx5⟩ : ∃ (i b : Nat) (t : IM), o.tk[i]? = some t ∧ x.c.ser = (i : Int) + 1 ∧ o.tp = some ⟨b, 0, none⟩ ∧ t.k = x.c.tok ∧ it = t.t := by
        obtain ⟨t1, t2, t3, t4⟩ := tokG_some htk
        have h2 : o.f.tk.length = o.tk.length := List.length_map ..
        have hi : (x.c.ser - 1).toNat < o.tk.length := by omega
        obtain ⟨b, hb, _⟩ := own_at ienc_len (by decide) HFO.out.own.tk hi
        have h3 : (o.tk.map IM.t)[(x.c.ser - 1).toNat]? = some it := t3
        rw [List.getElem?_map, List.getElem?_eq_getElem hi] at h3
        injection h3 with h3
        exact ⟨(x.c.ser - 1).toNat, b, o.tk[(x.c.ser - 1).toNat], List.getElem?_eq_getElem hi, by omega, hb, by rw [← h3] at t4; exact t4, h3.symm⟩
      have HT0 : Hid (Calls Tryz.prog 111 #[dptr o.g, .int .i64 x.c.tok, .int .i64 x.c.ser] w2 fun e w' => e = .returned (.pointer (some ⟨b, i * 3, none⟩)) ∧ w' = w2) := HTK.out.mono fun e w' ⟨h1, h2⟩ => by
        rcases h1 with ⟨h1, _⟩ | ⟨i2, b2, _, _, h3, h4, _, _, h5⟩
        · rw [htk] at h1; cases h1
        · rw [hx3] at h4
          injection h4 with h4
          injection h4 with h4
          obtain rfl : i2 = i := by omega
          subst h4
          exact ⟨h5, h2⟩
      have hi := (List.getElem?_eq_some_iff.1 hx1).1
      have hti := (List.getElem?_eq_some_iff.1 hx1).2
      obtain ⟨b2, hb2, _, hat, _⟩ := own_at ienc_len (by decide) HFO.out.own.tk hi
      rw [hx3] at hb2
      injection hb2 with hb2
      injection hb2 with hb2
      subst hb2
      rw [hti] at hat
      have q1 : w2.cell? ⟨b, i * 3 + 1, none⟩ = some (.slice t.sc.1 t.sc.2.2.length t.sc.2.1) := hat 1 (by decide)
      have q2 : w2.cell? ⟨b, i * 3 + 2, none⟩ = some (.bool t.used) := hat 2 (by decide)
      cases hu : t.used with
      | true =>
        rw [hu] at q2
        have HSP := Lib.hid (spec_same (room := room) h hg (a := no 0) fun b => by unfold stepG; rw [if_neg (by omega), if_neg (by omega), if_neg (by omega), if_neg (by omega), if_neg (by omega), if_pos hk]; show (if o.f.rev = true then _ else match tokG o.f x.c.tok x.c.ser with | none => _ | some t => _) = _; rw [if_neg hnr, htk]; show (if it.used = true then _ else _) = _; rw [hx5, show t.t.used = true from hu]; rfl)
        rw [HSP.out]
        clear h hall hx hm hk hpr hfl hg hrv hom hoi hlv hrf hnr htk HTK hx1 hx2 hx3 hx4 hx5 hi hti hat hu
        go_enter Tryz.func93, Tryz.ntmps93
        go_wp2_with (first
          | (go_at_call 108; (with_reducible refine HLV.out.mono ?_); rintro e w3 ⟨rfl, hw3⟩; obtain rfl : w2 = w3 := hw3.symm)
          | (go_at_call 111; (with_reducible refine HT0.out.mono ?_); rintro e w3 ⟨rfl, hw3⟩; obtain rfl : w2 = w3 := hw3.symm)
          | fail)
        have HB4 := HB0
        refine bodyPost_ret (results_blk Tryz.results93 _ _ (w.heap.size + 1) 59 [.int .i64 0, .int .i64 0, .int .i64 0, .slice none 0 0, .string ⟨#[]⟩, .string ⟨#[]⟩, .bool false, .bool false] _ rfl (set8_blk (HPR.out.ans.below HB4.out) (.int .i64 0) (.int .i64 0) (.int .i64 0) (.slice none 0 0) (.string ⟨#[]⟩) (.string ⟨#[]⟩) (.bool false) (.bool false)) Tryz.underlying59 rfl infoAn) rfl ?_
        exact fin_same HM.out HALL.out (bnext HPR.out.bel HB4.out) (Nat.lt_of_lt_of_le HL2.out HB4.out.size) (no 0) rfl _ _ _ _ _ _ _ _
      | false =>
        rw [hu] at q2
        have hstep : ∀ b, stepG b (some o.f) x.c = (some { o.f with le := leaseG o.f.le x.c.edge }, ⟨0, 0, 0, t.sc.2.2, o.cl, o.us, true, false⟩) := fun b => by unfold stepG; rw [if_neg (by omega), if_neg (by omega), if_neg (by omega), if_neg (by omega), if_neg (by omega), if_pos hk]; show (if o.f.rev = true then _ else match tokG o.f x.c.tok x.c.ser with | none => _ | some t => _) = _; rw [if_neg hnr, htk]; show (if it.used = true then _ else _) = _; rw [hx5, show t.t.used = false from hu]; rfl
        have HSP := Lib.hid (spec_fam (room := room) hg hstep)
        rw [HSP.out]
        have HRT := Lib.hid (step_right (o := some o.f) hm (full := false) (fun f hf => by injection hf with hf; subst hf; exact ⟨HRO.out, hoi⟩) _ (by rw [hstep]))
        have HOI := Lib.hid hoi
        have hgd := fam_good (HM2.out.fams o hom) HRO.out
        have HLS : Hid (Calls Tryz.prog 113 #[dptr o.g, .int .i64 x.c.edge] w2 fun en w' => en = .returned (.tuple #[]) ∧ LeaA w2 w' o x.c.edge) := lease_c (HM2.out.fams o hom) hgd.ll ((ris_iff o.f.le).1 HRO.out.le).2 x.c.edge
        have HTG := Lib.hid (hgd.ts t (List.mem_of_getElem? hx1))
        have HTI := Lib.hid (And.intro hx1 hx3)
        have HLN : Hid (o.cl.length ≤ 140737488351232 ∧ o.us.length ≤ 140737488351232) := ⟨hgd.cl, hgd.us⟩
        clear h hall hx hm hk hpr hfl hg hrv hom hoi hlv hrf hnr htk HTK hx1 hx2 hx3 hx4 hx5 hi hti hat hu hgd hstep
        go_enter Tryz.func93, Tryz.ntmps93
        go_wp2_with (first
          | (go_at_call 108; (with_reducible refine HLV.out.mono ?_); rintro e w3 ⟨rfl, hw3⟩; obtain rfl : w2 = w3 := hw3.symm)
          | (go_at_call 111; (with_reducible refine HT0.out.mono ?_); rintro e w3 ⟨rfl, hw3⟩; obtain rfl : w2 = w3 := hw3.symm)
          | fail)
        refine HLS.out.mono ?_
        rintro e w5 ⟨rfl, p10, c10, hfy, hty⟩
        have hi := (List.getElem?_eq_some_iff.1 HTI.out.1).1
        have hti := (List.getElem?_eq_some_iff.1 HTI.out.1).2
        obtain ⟨b2, hb2, _, hat, _⟩ := own_at ienc_len (by decide) hfy.own.tk hi
        rw [HTI.out.2] at hb2
        injection hb2 with hb2
        injection hb2 with hb2
        subst hb2
        have r1 : w5.cell? ⟨b, i * 3 + 1, none⟩ = some (.slice t.sc.1 t.sc.2.2.length t.sc.2.1) := by
          have h := hat 1 (by decide)
          rw [show (({ o with lp := p10, lc := c10, le := leaseG o.le x.c.edge } : DF).tk[i]'hi) = t from hti] at h
          exact h
        have HX : Hid (∀ W, Below w5.heap.size w5 W → W.cell? ⟨b, i * 3 + 1, none⟩ = some (.slice t.sc.1 t.sc.2.2.length t.sc.2.1) ∧ W.cell? ⟨o.g, 1, none⟩ = some (.string ⟨o.cl.toArray⟩) ∧ W.cell? ⟨o.g, 2, none⟩ = some (.string ⟨o.us.toArray⟩)) := fun W hW => ⟨(hW.cell (p := ⟨b, i * 3 + 1, none⟩) (cell_lt r1)).trans r1, (hfy.blk.below hW).cell 1, (hfy.blk.below hW).cell 2⟩
        have hA5 : Blk w5 (w.heap.size + 1) 59 zerA := blk_turn HPR.out.ans hty fun h => by have := (HM.out.fams o HOM.out.1).lt _ h; omega
        have h0 := (IS.start (HM.out.fams o HOM.out.1) HPR.out.bel).trans (⟨rfl, rfl, rfl, hfy, hty, (fun _ h => h.elim), (fun _ h => h.elim), (fun _ h => h.elim)⟩ : IS w2 w5 o { o with lp := p10, lc := c10, le := leaseG o.le x.c.edge } { o.f with le := leaseG o.f.le x.c.edge } (fun _ => False))
        have HI5 := Lib.hid (h0.weak (E2 := fun k => w.heap.size ≤ k ∧ k < w2.heap.size) fun k hk => Or.inl hk)
        have HA5 := Lib.hid hA5
        have hgt : GoodL w5 t.sc := own_goodR (hfy.own.ts t (List.mem_of_getElem? HTI.out.1)) HTG.out.fit HTG.out.few
        have HCL : Hid (∀ W, Below w5.heap.size w5 W → Calls Tryz.prog 71 #[.slice t.sc.1 t.sc.2.2.length t.sc.2.1] W fun e w' => ∃ p c, e = .returned (.slice p t.sc.2.2.length c) ∧ w'.ownsRow w5.heap.size 9 1 (.slice p t.sc.2.2.length c) t.sc.2.2.length (cells senc t.sc.2.2) ∧ Below W.heap.size W w') := fun W hW => (cloned_c t.sc W ((LL.of_good hgt).below hW) hgt.few).mono fun e w' ⟨p, c, h1, h2, _, h3⟩ => ⟨p, c, h1, own_baseR h2 hW.size, h3⟩
        have HC1 := Lib.hid (fun W => clone_c ⟨o.cl.toArray⟩ W (by rw [size_mk]; have := HLN.out.1; omega))
        have HC2 := Lib.hid (fun W => clone_c ⟨o.us.toArray⟩ W (by rw [size_mk]; have := HLN.out.2; omega))
        have H25 : Hid (w2.heap.size ≤ w5.heap.size) := hty.size
        obtain ⟨S1, hS1⟩ : ∃ S, (⟨o.cl.toArray⟩ : ByteArray) = S := ⟨_, rfl⟩
        obtain ⟨S2, hS2⟩ : ∃ S, (⟨o.us.toArray⟩ : ByteArray) = S := ⟨_, rfl⟩
        rw [hS1] at HC1 HX
        rw [hS2] at HC2 HX
        have HSS := Lib.hid (And.intro hS1 hS2)
        obtain ⟨n, hn⟩ : ∃ n, t.sc.2.2.length = n := ⟨_, rfl⟩
        rw [hn] at HX HCL
        have HN := Lib.hid hn
        have hbd : Below w5.heap.size w5 w5.drew := (Below.refl _ _).drew
        obtain ⟨e1, e2, e3⟩ := HX.out w5 (Below.refl _ _)
        clear hfy hty hi hti hat r1 hA5 h0 hgt hS1 hS2 hn
        go_wp2_with fail
        go_region_with (first
          | (go_at_call 71; (with_reducible refine (HCL.out _ (by assumption)).mono ?_); rintro e w6 ⟨p, q, rfl, ho6, hb6⟩; have hbw6 : Below w5.heap.size w5 w6 := bnext (by assumption) hb6; have HO6 := Lib.hid ho6; obtain ⟨l1, l2, l3⟩ := HX.out _ hbw6; clear ho6 hb6 e1 e2 e3)
          | (go_at_call_of 43 (Value.string S1); (with_reducible refine (HC1.out _).mono ?_); rintro e w7 ⟨rfl, hb7⟩; have hbw7 : Below w5.heap.size w5 w7 := bnext (by assumption) hb7; have HB67 := Lib.hid hb7; obtain ⟨l4, l5, l6⟩ := HX.out _ hbw7; clear hb7 l1 l2 l3)
          | (go_at_call 43; (with_reducible refine (HC2.out _).mono ?_); rintro e w8 ⟨rfl, hb8⟩; have hbw8 : Below w5.heap.size w5 w8 := bnext (by assumption) hb8; have HB78 := Lib.hid hb8; clear hb8 l4 l5 l6; obtain ⟨z0, z1, z2, z3, z4, z5, z6, z7, f0, f1, f2, f3, f4, f5, f6, f7⟩ := ans_cells (HA5.out.below hbw8)))
        all_goals
          go_wp2_with fail
          refine bodyPost_ret (results_blk Tryz.results93 _ _ (w.heap.size + 1) 59 [.int .i64 0, .int .i64 0, .int .i64 0, .slice p n q, .string S1, .string S2, .bool true, .bool false] _ rfl (set8_blk (HA5.out.below hbw8) (.int .i64 0) (.int .i64 0) (.int .i64 0) (.slice p n q) (.string S1) (.string S2) (.bool true) (.bool false)) Tryz.underlying59 rfl infoAn) rfl ?_
          have ho8 := own_belowG (own_belowG HO6.out HB67.out) HB78.out
          have hsc : t.sc.2.2.length = n := HN.out
          have hfin := HI5.out.more hbw8
          have h6 := fin_fam HM.out HALL.out HOM.out.1 hfin (Or.inl ⟨Nat.le_succ _, HL2.out⟩) HRT.out.1 (by rw [HRT.out.2]; exact HOI.out.symm) ⟨0, 0, 0, t.sc.2.2, o.cl, o.us, true, false⟩ p q (by dsimp only; rw [hsc]; exact own_baseR ho8 (by have := HL2.out; have := H25.out; omega)) (fun k hk => Or.inr (by dsimp only at hk; rw [hsc] at hk; exact ho8.lt k hk)) (.int .i64 0) (.int .i64 0) (.int .i64 0) (.slice p n q) (.string S1) (.string S2) (.bool true) (.bool false)
          unfold ansv tx at h6
          dsimp only at h6
          rw [HSS.out.1, HSS.out.2, hsc] at h6
          exact h6
end Go.Proofs.YthagdkipipldlaaGreatDoor.gra
