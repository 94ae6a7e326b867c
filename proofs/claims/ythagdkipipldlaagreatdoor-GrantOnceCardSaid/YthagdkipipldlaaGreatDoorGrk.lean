/- The developers' redeem (written by tools/gen_grh.py). No condition beyond what slices and texts are. -/
import Derived.Test.YthagdkipipldlaaGreatDoorGrj
namespace Go.Proofs.YthagdkipipldlaaGreatDoor.gra
open Go.RowKit
open Go.Proofs.YthagdkipipldlaaGreatDoor.oct Go.Proofs.YthagdkipipldlaaGreatDoor.ref Go.Proofs.YthagdkipipldlaaGreatDoor.rows Go.Proofs.YthagdkipipldlaaGreatDoor.rowg Go.Proofs.YthagdkipipldlaaGreatDoor.mpt Go.Proofs.YthagdkipipldlaaGreatDoor.trn Go.Proofs.YthagdkipipldlaaGreatDoor.krd
open Go.Proofs.YthagdkipipldlaaGreatDoor.sha (Tabs)
open Go.Proofs.YthagdkipipldlaaGreatDoor.scp (tx senc senc_len senc_one InS ins_below ins_cell ins_one lt Lst lval lenc GoodL FitS RowA own_good infoStr clone_c key_txt skeyed withinP)

theorem fall_rt {f : FT} (h : RT f) : RT (fallG f) := ⟨h.id, h.cl1, h.cl, h.us, h.re, h.fit, h.code, h.few, h.toks, h.le⟩
/-- a family is revoked -/
theorem fall_is {w w2 W : World} {R : Nat → Prop} {g m room : Nat} {D : DataW Nat} {fl : List DF} (h : BM w R g m D fl room) {o : DF} (ho : o ∈ fl) (hb : Below w.heap.size w w2) (hW : Below w2.heap.size w2 W) :
    ∃ y, IS w (W.setCell ⟨o.g, 9, none⟩ (.bool true)) o y (fallG o.f) (fun k => w.heap.size ≤ k ∧ k < w2.heap.size) := by
  have h0 := IS.start (h.fams o ho) (bnext hb hW)
  have h1 := h0.fam.cell (Below.refl _ _) (y := { o with rev := true }) 9 (.bool true) rfl rfl rfl rfl rfl rfl rfl rfl rfl rfl
  obtain ⟨y, hy⟩ := IS.of_fto h1
  exact ⟨y, (h0.trans hy).weak fun k hk => Or.inl ⟨hk.1, Nat.lt_of_lt_of_le hk.2 hW.size⟩⟩
set_option maxRecDepth 100000 in
set_option maxHeartbeats 16000000 in
theorem redeem_c {w : World} {R : Nat → Prop} {g m room : Nat} {D : DataW Nat} {fl : List DF} (h : BM w R g m D fl room) (hall : ∀ x ∈ fl, RT x.f) (x : CM) (hx : GoodC w x) (hm : MayT x.c) (hk : x.c.kind = 2) (ht : Tabs w) :
    Calls Tryz.prog 89 #[dptr g, cval x] w fun e w' => DoA w w' R g room (specG room (fl.map DF.f) x.c) e := by
  have hpr := PR.mk2 w x #[.int .i64 x.c.kind, .string ⟨x.c.fam.toArray⟩, .int .i64 x.c.ser, .int .i64 x.c.tok, .string ⟨x.c.cl.toArray⟩, .string ⟨x.c.us.toArray⟩, .slice x.p x.c.sc.length x.r, .string ⟨x.c.re.toArray⟩, .string ⟨x.c.ch.toArray⟩, .string ⟨x.c.me.toArray⟩, .string ⟨x.c.ve.toArray⟩, .bool x.c.rf, .int .i64 x.c.edge] #[.int .i64 0, .int .i64 0, .int .i64 0, .slice none 0 0, .string ⟨#[]⟩, .string ⟨#[]⟩, .bool false, .bool false] rfl rfl
  obtain ⟨w2, hw2⟩ : ∃ w2, (w.alloc (.cells #[.int .i64 x.c.kind, .string ⟨x.c.fam.toArray⟩, .int .i64 x.c.ser, .int .i64 x.c.tok, .string ⟨x.c.cl.toArray⟩, .string ⟨x.c.us.toArray⟩, .slice x.p x.c.sc.length x.r, .string ⟨x.c.re.toArray⟩, .string ⟨x.c.ch.toArray⟩, .string ⟨x.c.me.toArray⟩, .string ⟨x.c.ve.toArray⟩, .bool x.c.rf, .int .i64 x.c.edge] 48)).alloc (.cells #[.int .i64 0, .int .i64 0, .int .i64 0, .slice none 0 0, .string ⟨#[]⟩, .string ⟨#[]⟩, .bool false, .bool false] 59) = w2 := ⟨_, rfl⟩
  rw [hw2] at hpr
  have HPR := Lib.hid hpr
  have HM := Lib.hid h
  have HALL := Lib.hid hall
  have HM2 := Lib.hid (h.below hpr.bel)
  have HXX := Lib.hid hx
  have HMM := Lib.hid hm
  have HKK := Lib.hid hk
  have HRF : Hid (∀ (k : Int) W, Calls Tryz.prog 59 #[.int .i64 k] W fun e w' => e = .returned (.agg #[.int .i64 k, .int .i64 0, .int .i64 0, .slice none 0 0, .string ⟨#[]⟩, .string ⟨#[]⟩, .bool false, .bool false]) ∧ Below W.heap.size W w') := Lib.hid fun k W => refusal_c k W
  have HL2 : Hid (w.heap.size + 1 < w2.heap.size) := hpr.ans.lt
  have HB0 : Hid (Below w2.heap.size w2 w2) := Lib.hid (Below.refl _ _)
  obtain ⟨k0, k1, k2, k3, k4, k5, k6, k7, k8, k9, k10, k11, k12⟩ := hpr.cells (Below.refl _ _)
  obtain ⟨z0, z1, z2, z3, z4, z5, z6, z7, f0, f1, f2, f3, f4, f5, f6, f7⟩ := ans_cells hpr.ans
  have HT2 := Lib.hid (ht.below hpr.bel)
  show Calls _ _ #[dptr g, .agg #[.int .i64 x.c.kind, .string ⟨x.c.fam.toArray⟩, .int .i64 x.c.ser, .int .i64 x.c.tok, .string ⟨x.c.cl.toArray⟩, .string ⟨x.c.us.toArray⟩, .slice x.p x.c.sc.length x.r, .string ⟨x.c.re.toArray⟩, .string ⟨x.c.ch.toArray⟩, .string ⟨x.c.me.toArray⟩, .string ⟨x.c.ve.toArray⟩, .bool x.c.rf, .int .i64 x.c.edge]] w _
  have hfl : x.c.fam.length ≤ 140737488351232 := hx.fam
  have HLV := Lib.hid (living_c HM2.out x.c.fam hfl)
  cases hlv : liveD fl x.c.fam with
  | none =>
    rw [hlv] at HLV
    have HSP : Hid (specG room (fl.map DF.f) x.c = (fl.map DF.f, no 3)) := by
      cases hg : getD fl x.c.fam with
      | none => exact spec_same h hg fun b => by unfold stepG; rw [if_neg (by omega), if_neg (by omega), if_pos hk]; rfl
      | some o =>
        have hrv : o.rev = true := by
          unfold liveD at hlv
          rw [hg] at hlv
          dsimp only at hlv
          cases ho : o.rev with
          | true => rfl
          | false => rw [ho] at hlv; simp at hlv
        exact spec_same h hg fun b => by unfold stepG; rw [if_neg (by omega), if_neg (by omega), if_pos hk]; show (if o.f.rev = true ∨ _ ∨ _ then _ else _) = _; rw [if_pos (Or.inl (show o.f.rev = true from hrv))]; rfl
    rw [HSP.out]
    unfold optr at HLV
    dsimp only at HLV
    clear h hall hx hm hk hpr ht hfl hlv
    go_enter Tryz.func89, Tryz.ntmps89
    have HB3 : Hid (∀ nq, Below w2.heap.size w2 (w2.drewN nq)) := fun nq => below_drewN (Below.refl _ _) nq
    go_wp2_with (first
      | (go_at_call 108; (with_reducible refine HLV.out.mono ?_); rintro e w3 ⟨rfl, hw3⟩; obtain rfl : w2 = w3 := hw3.symm)
      | fail)
    go_quiet (fail)
    go_wp2_with (first
      | (go_at_call 59; (with_reducible refine (HRF.out _ _).mono ?_); rintro e w4 ⟨rfl, hb4⟩; have HB4 := Lib.hid (bnext (HB3.out nq) hb4); obtain ⟨z0, z1, z2, z3, z4, z5, z6, z7, f0, f1, f2, f3, f4, f5, f6, f7⟩ := ans_cells (HPR.out.ans.below HB4.out); clear hb4)
      | fail)
    refine bodyPost_ret (results_blk Tryz.results89 _ _ (w.heap.size + 1) 59 [.int .i64 3, .int .i64 0, .int .i64 0, .slice none 0 0, .string ⟨#[]⟩, .string ⟨#[]⟩, .bool false, .bool false] _ rfl (set8_blk (HPR.out.ans.below HB4.out) (.int .i64 3) (.int .i64 0) (.int .i64 0) (.slice none 0 0) (.string ⟨#[]⟩) (.string ⟨#[]⟩) (.bool false) (.bool false)) Tryz.underlying59 rfl infoAn) rfl ?_
    exact fin_same HM.out HALL.out (bnext HPR.out.bel HB4.out) (Nat.lt_of_lt_of_le HL2.out HB4.out.size) (no 3) rfl _ _ _ _ _ _ _ _
  | some o =>
    rw [hlv] at HLV
    have hgo : getD fl x.c.fam = some o ∧ o.rev = false := by
      unfold liveD at hlv
      cases hg : getD fl x.c.fam with
      | none => rw [hg] at hlv; cases hlv
      | some u =>
        rw [hg] at hlv
        dsimp only at hlv
        cases hu : u.rev with
        | true => rw [hu] at hlv; simp at hlv
        | false =>
          rw [hu] at hlv
          simp at hlv
          subst hlv
          exact ⟨rfl, hu⟩
    obtain ⟨hg, hrv⟩ := hgo
    obtain ⟨hom, hoi⟩ := getD_in hg
    have HFO := Lib.hid (HM2.out.fams o hom)
    have HOM := Lib.hid (And.intro hom hoi)
    have HRO := Lib.hid (hall o hom)
    obtain ⟨d0, d1, d2, d3, d4, d5, d6, d7, d8, d9, d10⟩ := cellsF HFO.out.blk
    unfold optr at HLV
    dsimp only at HLV
    have hrf : o.f.rev = false := hrv
    unfold tx at d0 d1 d2 d4 d5 d6
    unfold lval at d3
    unfold DF.tv at d8
    unfold DF.lv at d10
    have hgw : o.g < w.heap.size := (HM.out.fams o hom).blk.lt
    by_cases h1 : ¬ o.cl = x.c.cl
    · have y1 : (o.cl == x.c.cl) = false := by rw [beq_eq_false_iff_ne]; exact h1
      have HSP := Lib.hid (spec_same (room := room) h hg (a := no 3) fun b => by unfold stepG; rw [if_neg (by omega), if_neg (by omega), if_pos hk]; show (if o.f.rev = true ∨ o.f.cl ≠ x.c.cl ∨ _ then _ else _) = _; rw [if_pos (Or.inr (Or.inl (show o.f.cl ≠ x.c.cl from h1)))]; rfl)
      rw [HSP.out]
      clear h hall hx hm hk hpr ht hfl hg hrv hom hoi hlv hrf h1
      go_enter Tryz.func89, Tryz.ntmps89
      have HB3 : Hid (∀ nq, Below w2.heap.size w2 (w2.drewN nq)) := fun nq => below_drewN (Below.refl _ _) nq
      go_wp2_with (first
        | (go_at_call 108; (with_reducible refine HLV.out.mono ?_); rintro e w3 ⟨rfl, hw3⟩; obtain rfl : w2 = w3 := hw3.symm)
        | fail)
      go_quiet (fail)
      go_wp2_with (first
        | (go_at_call 59; (with_reducible refine (HRF.out _ _).mono ?_); rintro e w4 ⟨rfl, hb4⟩; have HB4 := Lib.hid (bnext (HB3.out nq) hb4); obtain ⟨z0, z1, z2, z3, z4, z5, z6, z7, f0, f1, f2, f3, f4, f5, f6, f7⟩ := ans_cells (HPR.out.ans.below HB4.out); clear hb4)
        | fail)
      refine bodyPost_ret (results_blk Tryz.results89 _ _ (w.heap.size + 1) 59 [.int .i64 3, .int .i64 0, .int .i64 0, .slice none 0 0, .string ⟨#[]⟩, .string ⟨#[]⟩, .bool false, .bool false] _ rfl (set8_blk (HPR.out.ans.below HB4.out) (.int .i64 3) (.int .i64 0) (.int .i64 0) (.slice none 0 0) (.string ⟨#[]⟩) (.string ⟨#[]⟩) (.bool false) (.bool false)) Tryz.underlying59 rfl infoAn) rfl ?_
      exact fin_same HM.out HALL.out (bnext HPR.out.bel HB4.out) (Nat.lt_of_lt_of_le HL2.out HB4.out.size) (no 3) rfl _ _ _ _ _ _ _ _
    replace h1 : o.cl = x.c.cl := Decidable.not_not.1 h1
    have y1 : (o.cl == x.c.cl) = true := by rw [beq_iff_eq]; exact h1
    by_cases h2 : o.code = 0
    · have y2 : (o.code == 0) = true := by rw [beq_iff_eq]; exact h2
      have HSP := Lib.hid (spec_same (room := room) h hg (a := no 3) fun b => by unfold stepG; rw [if_neg (by omega), if_neg (by omega), if_pos hk]; show (if o.f.rev = true ∨ o.f.cl ≠ x.c.cl ∨ o.f.code = 0 then _ else _) = _; rw [if_pos (Or.inr (Or.inr (show o.f.code = 0 from h2)))]; rfl)
      rw [HSP.out]
      clear h hall hx hm hk hpr ht hfl hg hrv hom hoi hlv hrf h1 h2
      go_enter Tryz.func89, Tryz.ntmps89
      have HB3 : Hid (∀ nq, Below w2.heap.size w2 (w2.drewN nq)) := fun nq => below_drewN (Below.refl _ _) nq
      go_wp2_with (first
        | (go_at_call 108; (with_reducible refine HLV.out.mono ?_); rintro e w3 ⟨rfl, hw3⟩; obtain rfl : w2 = w3 := hw3.symm)
        | fail)
      go_quiet (fail)
      go_wp2_with (first
        | (go_at_call 59; (with_reducible refine (HRF.out _ _).mono ?_); rintro e w4 ⟨rfl, hb4⟩; have HB4 := Lib.hid (bnext (HB3.out nq) hb4); obtain ⟨z0, z1, z2, z3, z4, z5, z6, z7, f0, f1, f2, f3, f4, f5, f6, f7⟩ := ans_cells (HPR.out.ans.below HB4.out); clear hb4)
        | fail)
      refine bodyPost_ret (results_blk Tryz.results89 _ _ (w.heap.size + 1) 59 [.int .i64 3, .int .i64 0, .int .i64 0, .slice none 0 0, .string ⟨#[]⟩, .string ⟨#[]⟩, .bool false, .bool false] _ rfl (set8_blk (HPR.out.ans.below HB4.out) (.int .i64 3) (.int .i64 0) (.int .i64 0) (.slice none 0 0) (.string ⟨#[]⟩) (.string ⟨#[]⟩) (.bool false) (.bool false)) Tryz.underlying59 rfl infoAn) rfl ?_
      exact fin_same HM.out HALL.out (bnext HPR.out.bel HB4.out) (Nat.lt_of_lt_of_le HL2.out HB4.out.size) (no 3) rfl _ _ _ _ _ _ _ _
    have y2 : (o.code == 0) = false := by rw [beq_eq_false_iff_ne]; exact h2
    have hno : ¬ (o.f.rev = true ∨ o.f.cl ≠ x.c.cl ∨ o.f.code = 0) := by
      rintro (e | e | e)
      · rw [hrf] at e; cases e
      · exact e h1
      · exact h2 e
    by_cases h3 : o.code = 2
    · have y3 : (o.code == 2) = true := by rw [beq_iff_eq]; exact h3
      have HSP := Lib.hid (spec_fam (room := room) hg (f := fallG o.f) (a := no 3) fun b => by unfold stepG; rw [if_neg (by omega), if_neg (by omega), if_pos hk]; show (if o.f.rev = true ∨ o.f.cl ≠ x.c.cl ∨ o.f.code = 0 then _ else _) = _; rw [if_neg hno, if_pos (show o.f.code = 2 from h3)])
      rw [HSP.out]
      have HFL : Hid (∀ W, Below w2.heap.size w2 W → ∃ y, IS w (W.setCell ⟨o.g, 9, none⟩ (.bool true)) o y (fallG o.f) (fun k => w.heap.size ≤ k ∧ k < w2.heap.size)) := by
        intro W hW
        obtain ⟨y, hy⟩ := fall_is HM.out HOM.out.1 HPR.out.bel hW
        exact ⟨y, hy⟩
      clear h hall hx hm hk hpr ht hfl hg hrv hom hoi hlv hrf h1 h2 h3 hno
      go_enter Tryz.func89, Tryz.ntmps89
      go_wp2_with (first
        | (go_at_call 108; (with_reducible refine HLV.out.mono ?_); rintro e w3 ⟨rfl, hw3⟩; obtain rfl : w2 = w3 := hw3.symm)
        | fail)
      go_quiet (fail)
      have HBQ := Lib.hid (below_drewN (Below.refl w2.heap.size w2) nq)
      have f9 := ((HFO.out.blk).below HBQ.out).frozen 9
      go_upto_region 6 with fail
      obtain ⟨y, hy⟩ := HFL.out _ HBQ.out
      have HY := Lib.hid hy
      have hA := blk_turn (HPR.out.ans.below HBQ.out) (Turn.set (S := fun k => k = o.g) _ o.g 9 (.bool true) rfl) (by omega)
      obtain ⟨w5, hw5⟩ : ∃ w5, (w2.drewN nq).setCell ⟨o.g, 9, none⟩ (.bool true) = w5 := ⟨_, rfl⟩
      rw [hw5] at HY hA ⊢
      have HA := Lib.hid hA
      clear hy hA hw5 f9
      go_wp2_with (first
        | (go_at_call 59; (with_reducible refine (HRF.out _ _).mono ?_); rintro e w4 ⟨rfl, hb4⟩; have HB4 := Lib.hid hb4; obtain ⟨z0, z1, z2, z3, z4, z5, z6, z7, f0, f1, f2, f3, f4, f5, f6, f7⟩ := ans_cells (HA.out.below HB4.out); clear hb4)
        | fail)
      refine bodyPost_ret (results_blk Tryz.results89 _ _ (w.heap.size + 1) 59 [.int .i64 3, .int .i64 0, .int .i64 0, .slice none 0 0, .string ⟨#[]⟩, .string ⟨#[]⟩, .bool false, .bool false] _ rfl (set8_blk (HA.out.below HB4.out) (.int .i64 3) (.int .i64 0) (.int .i64 0) (.slice none 0 0) (.string ⟨#[]⟩) (.string ⟨#[]⟩) (.bool false) (.bool false)) Tryz.underlying59 rfl infoAn) rfl ?_
      exact fin_fam HM.out HALL.out HOM.out.1 (HY.out.below HB4.out) ⟨Nat.le_succ _, HL2.out⟩ (fall_rt HRO.out) rfl (no 3) none 0 (World.ownsRow_nil _ _ _ _) (fun k hk => by cases hk) _ _ _ _ _ _ _ _
    have y3 : (o.code == 2) = false := by rw [beq_eq_false_iff_ne]; exact h3
    have HSB : Hid (∀ W, Below w2.heap.size w2 W → Calls Tryz.prog 109 #[dptr o.g, .string ⟨x.c.ve.toArray⟩] W fun e w' => e = .returned (.bool (checkG o.f x.c.ve)) ∧ Below W.heap.size W w') := by
      intro W hW
      obtain ⟨_, _, _, _, _, l6, l7⟩ := rt_len HRO.out
      exact shownBy_c (⟨HFO.out.blk.below hW, HFO.out.own.below hW, HFO.out.foot⟩ : FamM W R o) (HT2.out.below hW) x.c.ve (by have : o.ch.length ≤ 128 := l6; omega) (by have : o.me.length ≤ 128 := l7; omega) HXX.out.ve
    by_cases h4 : ¬ o.re = x.c.re
    · have y4 : (o.re == x.c.re) = false := by rw [beq_eq_false_iff_ne]; exact h4
      have HSP := Lib.hid (spec_same (room := room) h hg (a := no 3) fun b => by unfold stepG; rw [if_neg (by omega), if_neg (by omega), if_pos hk]; show (if o.f.rev = true ∨ o.f.cl ≠ x.c.cl ∨ o.f.code = 0 then _ else _) = _; rw [if_neg hno, if_neg (show ¬ o.f.code = 2 from h3), if_pos (Or.inl (show o.f.re ≠ x.c.re from h4))]; rfl)
      rw [HSP.out]
      clear h hall hx hm hk hpr ht hfl hg hrv hom hoi hlv hrf h1 h2 h3 h4 hno
      go_enter Tryz.func89, Tryz.ntmps89
      go_wp2_with (first
        | (go_at_call 108; (with_reducible refine HLV.out.mono ?_); rintro e w3 ⟨rfl, hw3⟩; obtain rfl : w2 = w3 := hw3.symm)
        | fail)
      go_quiet (fail)
      have HBQ := Lib.hid (below_drewN (Below.refl w2.heap.size w2) nq)
      go_upto_region 7 with fail
      go_quiet (fail)
      have HBQ2 := Lib.hid (show Below w2.heap.size w2 (w2.drewN (_ + nq)) from by rw [← scp.drewN_add]; exact below_drewN HBQ.out nq)
      go_wp2_with (first
        | (go_at_call 59; (with_reducible refine (HRF.out _ _).mono ?_); rintro e w4 ⟨rfl, hb4⟩; have HB4 := Lib.hid (bnext HBQ2.out hb4); obtain ⟨z0, z1, z2, z3, z4, z5, z6, z7, f0, f1, f2, f3, f4, f5, f6, f7⟩ := ans_cells (HPR.out.ans.below HB4.out); clear hb4)
        | fail)
      refine bodyPost_ret (results_blk Tryz.results89 _ _ (w.heap.size + 1) 59 [.int .i64 3, .int .i64 0, .int .i64 0, .slice none 0 0, .string ⟨#[]⟩, .string ⟨#[]⟩, .bool false, .bool false] _ rfl (set8_blk (HPR.out.ans.below HB4.out) (.int .i64 3) (.int .i64 0) (.int .i64 0) (.slice none 0 0) (.string ⟨#[]⟩) (.string ⟨#[]⟩) (.bool false) (.bool false)) Tryz.underlying59 rfl infoAn) rfl ?_
      exact fin_same HM.out HALL.out (bnext HPR.out.bel HB4.out) (Nat.lt_of_lt_of_le HL2.out HB4.out.size) (no 3) rfl _ _ _ _ _ _ _ _
    replace h4 : o.re = x.c.re := Decidable.not_not.1 h4
    have y4 : (o.re == x.c.re) = true := by rw [beq_iff_eq]; exact h4
    have HEAD0 : Hid (∀ b, stepG b (some o.f) x.c = if checkG o.f x.c.ve = false then (some o.f, no 3) else (some (issG { o.f with code := 2 } o.f.sc x.c.rf).1, (issG { o.f with code := 2 } o.f.sc x.c.rf).2)) := by
      intro b
      unfold stepG; rw [if_neg (by omega), if_neg (by omega), if_pos hk]; show (if o.f.rev = true ∨ o.f.cl ≠ x.c.cl ∨ o.f.code = 0 then _ else _) = _; rw [if_neg hno, if_neg (show ¬ o.f.code = 2 from h3)]; by_cases hc : checkG o.f x.c.ve = false; rw [if_pos (Or.inr hc), if_pos hc]; rw [if_neg (fun e => e.elim (fun e => e (show o.f.re = x.c.re from h4)) hc), if_neg hc]
    cases hck : checkG o.f x.c.ve with
    | false =>
      rw [hck] at HSB HEAD0
      have HSP := Lib.hid (spec_same (room := room) h hg (a := no 3) fun b => by show stepG b (some o.f) x.c = _; rw [HEAD0.out]; rfl)
      rw [HSP.out]
      clear h hall hx hm hk hpr ht hfl hg hrv hom hoi hlv hrf h1 h2 h3 h4 hno hck HEAD0
      go_enter Tryz.func89, Tryz.ntmps89
      go_wp2_with (first
        | (go_at_call 108; (with_reducible refine HLV.out.mono ?_); rintro e w3 ⟨rfl, hw3⟩; obtain rfl : w2 = w3 := hw3.symm)
        | fail)
      go_quiet (fail)
      have HBQ := Lib.hid (below_drewN (Below.refl w2.heap.size w2) nq)
      go_upto_region 7 with fail
      go_region_with (go_at_call 109; (with_reducible refine (HSB.out _ ?_).mono ?_); first | exact HBQ.out | exact HBQ.out.drew; rintro e w5 ⟨rfl, hb5⟩; have HB5 := Lib.hid (bnext (by first | exact HBQ.out | exact HBQ.out.drew) hb5); clear hb5)
      all_goals
        go_wp2_with (first
          | (go_at_call 59; (with_reducible refine (HRF.out _ _).mono ?_); rintro e w4 ⟨rfl, hb4⟩; have HB4 := Lib.hid (bnext HB5.out hb4); obtain ⟨z0, z1, z2, z3, z4, z5, z6, z7, f0, f1, f2, f3, f4, f5, f6, f7⟩ := ans_cells (HPR.out.ans.below HB4.out); clear hb4)
          | fail)
        refine bodyPost_ret (results_blk Tryz.results89 _ _ (w.heap.size + 1) 59 [.int .i64 3, .int .i64 0, .int .i64 0, .slice none 0 0, .string ⟨#[]⟩, .string ⟨#[]⟩, .bool false, .bool false] _ rfl (set8_blk (HPR.out.ans.below HB4.out) (.int .i64 3) (.int .i64 0) (.int .i64 0) (.slice none 0 0) (.string ⟨#[]⟩) (.string ⟨#[]⟩) (.bool false) (.bool false)) Tryz.underlying59 rfl infoAn) rfl ?_
        exact fin_same HM.out HALL.out (bnext HPR.out.bel HB4.out) (Nat.lt_of_lt_of_le HL2.out HB4.out.size) (no 3) rfl _ _ _ _ _ _ _ _
    | true =>
      rw [hck] at HSB HEAD0
      have HSP := Lib.hid (spec_fam (room := room) hg (f := (issG { o.f with code := 2 } o.f.sc x.c.rf).1) (a := (issG { o.f with code := 2 } o.f.sc x.c.rf).2) fun b => by rw [HEAD0.out]; rfl)
      rw [HSP.out]
      have hstep : (stepG false (some o.f) x.c).1 = some (issG { o.f with code := 2 } o.f.sc x.c.rf).1 := by rw [HEAD0.out]; rfl
      have HRT := Lib.hid (step_right hm (fun f hf => by injection hf with hf; subst hf; exact ⟨HRO.out, hoi⟩) _ hstep)
      have HOI := Lib.hid hoi
      clear h hall hx hm hk hpr ht hfl hg hrv hom hoi hlv hrf h1 h2 h3 h4 hno hck HEAD0 hstep
      go_enter Tryz.func89, Tryz.ntmps89
      go_wp2_with (first
        | (go_at_call 108; (with_reducible refine HLV.out.mono ?_); rintro e w3 ⟨rfl, hw3⟩; obtain rfl : w2 = w3 := hw3.symm)
        | fail)
      go_quiet (fail)
      have HBQ := Lib.hid (below_drewN (Below.refl w2.heap.size w2) nq)
      go_upto_region 7 with fail
      go_region_with (go_at_call 109; (with_reducible refine (HSB.out _ ?_).mono ?_); first | exact HBQ.out | exact HBQ.out.drew; rintro e w5 ⟨rfl, hb5⟩; have HB5 := Lib.hid (bnext (by first | exact HBQ.out | exact HBQ.out.drew) hb5); clear hb5)
      all_goals
        have e7 : w5.cell? ⟨o.g, 7, none⟩ = some (.int .i64 o.code) := (HFO.out.blk.below HB5.out).cell 7
        have f7 := (HFO.out.blk.below HB5.out).frozen 7
        go_upto_region 10 with fail
        have h0 := IS.start (HM.out.fams o HOM.out.1) (bnext HPR.out.bel HB5.out)
        obtain ⟨y, hy⟩ := IS.of_fto (h0.fam.cell (Below.refl _ _) (y := { o with code := 2 }) 7 (.int .i64 2) rfl rfl rfl rfl rfl rfl rfl rfl rfl rfl)
        have hA : Blk (w5.setCell ⟨o.g, 7, none⟩ (.int .i64 2)) (w.heap.size + 1) 59 zerA := blk_turn (HPR.out.ans.below HB5.out) (Turn.set (S := fun k => k = o.g) _ o.g 7 (.int .i64 2) rfl) (by omega)
        have hC : Blk (w5.setCell ⟨o.g, 7, none⟩ (.int .i64 2)) w.heap.size 48 (cenc x) := blk_turn (HPR.out.cmd.below HB5.out) (Turn.set (S := fun k => k = o.g) _ o.g 7 (.int .i64 2) rfl) (by omega)
        have hT := (h0.trans hy).weak (E2 := fun k => w.heap.size ≤ k ∧ k < w2.heap.size) fun k hk => Or.inl ⟨hk.1, Nat.lt_of_lt_of_le hk.2 HB5.out.size⟩
        obtain ⟨w6, hw6⟩ : ∃ w6, w5.setCell ⟨o.g, 7, none⟩ (.int .i64 2) = w6 := ⟨_, rfl⟩
        rw [hw6] at hA hC hT hy ⊢
        have hyg : y.g = o.g := hy.g
        have hyc : y.sc.2.2 = o.sc.2.2 := congrArg FT.sc hy.f
        have hyk : y.tk.length = o.tk.length := by
          have h := congrArg (fun f => f.tk.length) hy.f
          have h2 : y.f.tk.length = y.tk.length := List.length_map ..
          have h3 : o.f.tk.length = o.tk.length := List.length_map ..
          rw [h2] at h
          rw [← h3]
          exact h
        have g3 : w6.cell? ⟨o.g, 3, none⟩ = some (.slice y.sc.1 y.sc.2.2.length y.sc.2.1) := by rw [← hyg]; exact hy.fam.blk.cell 3
        obtain ⟨s1, s2⟩ := fit_words HRO.out.fit
        have hfew := HRO.out.few
        have h3k : o.f.tk.length = o.tk.length := List.length_map ..
        have HIS : Hid (∀ b W, Below w6.heap.size w6 W → Calls Tryz.prog 110 #[dptr o.g, .slice y.sc.1 y.sc.2.2.length y.sc.2.1, .bool b] W fun e w' => ∃ p q z, e = .returned (ansv (issG { o.f with code := 2 } o.f.sc b).2 p q) ∧ w'.ownsRow w6.heap.size 9 1 (.slice p o.sc.2.2.length q) o.sc.2.2.length (cells senc o.sc.2.2) ∧ IS w6 w' y z (issG { o.f with code := 2 } o.f.sc b).1 (fun k => (Value.slice p o.sc.2.2.length q).ownBlock = some k)) := by
          intro b W hW
          have hgl := own_goodR (hy.fam.own.below hW).sc (by rw [hyc]; exact s1) (by rw [hyc]; have : o.sc.2.2.length ≤ 32 := s2; omega)
          have hz := issued_c (⟨hy.fam.blk.below hW, hy.fam.own.below hW, hy.fam.foot⟩ : FamM W _ y) (by rw [hyk]; omega) (by rw [hyc]; exact s1) (by rw [hyc]; have : o.sc.2.2.length ≤ 32 := s2; omega) y.sc hgl b
          rw [hyg] at hz
          refine hz.mono ?_
          rintro e w' ⟨p, q, z, rfl, k1, k2⟩
          rw [hy.f, hyc] at k2 ⊢
          rw [hyc] at k1
          refine ⟨p, q, z, rfl, own_baseR k1 hW.size, ?_⟩
          have hs0 : IS w6 W y y y.f (fun _ => False) := ⟨rfl, rfl, rfl, ⟨hy.fam.blk.below hW, hy.fam.own.below hW, fun _ hk => Or.inl hk⟩, Turn.of_below hW, (fun _ h => h.elim), (fun _ h => h.elim), (fun _ h => h.elim)⟩
          exact (hs0.trans k2).weak fun k hk => Or.inr hk
        have HT := Lib.hid hT
        have HA := Lib.hid hA
        have HC := Lib.hid hC
        have HB6 : Hid (Below w6.heap.size w6 w6.drew) := Lib.hid (Below.refl _ _).drew
        obtain ⟨k0, k1, k2, k3, k4, k5, k6, k7, k8, k9, k10, k11, k12⟩ := cmd_cells hC
        have hsca : (issG { o.f with code := 2 } o.f.sc x.c.rf).2.sc = o.sc.2.2 := by unfold issG; split <;> rfl
        obtain ⟨a, ha⟩ : ∃ a, (issG { o.f with code := 2 } o.f.sc x.c.rf).2 = a := ⟨_, rfl⟩
        have HIA : Hid (∀ W, Below w6.heap.size w6 W → Calls Tryz.prog 110 #[dptr o.g, .slice y.sc.1 y.sc.2.2.length y.sc.2.1, .bool x.c.rf] W fun e w' => ∃ p q z, e = .returned (.agg #[.int .i64 a.why, .int .i64 a.acc, .int .i64 a.ref, .slice p a.sc.length q, .string ⟨a.cl.toArray⟩, .string ⟨a.us.toArray⟩, .bool a.act, .bool a.wait]) ∧ w'.ownsRow w6.heap.size 9 1 (.slice p a.sc.length q) a.sc.length (cells senc a.sc) ∧ IS w6 w' y z (issG { o.f with code := 2 } o.f.sc x.c.rf).1 (fun k => (Value.slice p a.sc.length q).ownBlock = some k)) := by
          intro W hW
          refine (HIS.out x.c.rf W hW).mono ?_
          rintro e w' ⟨p, q, z, rfl, k1, k2⟩
          rw [← ha, hsca]
          refine ⟨p, q, z, ?_, k1, k2⟩
          unfold ansv tx
          rw [hsca]
        have HAE := Lib.hid ha
        clear hsca ha HIS hA hC hT hy hyg hyc hyk s1 s2 hfew h3k h0 e7 f7 hw6
        go_region_with (go_at_call 110; (with_reducible refine (HIA.out _ ?_).mono ?_); first | exact Below.refl _ _ | exact HB6.out; rintro e w7 ⟨p, q, z, rfl, ho7, hz7⟩; have HO7 := Lib.hid ho7; have HZ7 := Lib.hid hz7; obtain ⟨z0, z1, z2, z3, z4, z5, z6, z7, f0, f1, f2, f3, f4, f5, f6, f7⟩ := ans_cells (HT.out.blk hz7 HA.out ⟨Nat.le_succ _, HL2.out⟩); clear ho7 hz7)
        all_goals
          go_wp2_with fail
          refine bodyPost_ret (results_blk Tryz.results89 _ _ (w.heap.size + 1) 59 [.int .i64 a.why, .int .i64 a.acc, .int .i64 a.ref, .slice p a.sc.length q, .string ⟨a.cl.toArray⟩, .string ⟨a.us.toArray⟩, .bool a.act, .bool a.wait] _ rfl (set8_blk (HT.out.blk HZ7.out HA.out ⟨Nat.le_succ _, HL2.out⟩) (.int .i64 a.why) (.int .i64 a.acc) (.int .i64 a.ref) (.slice p a.sc.length q) (.string ⟨a.cl.toArray⟩) (.string ⟨a.us.toArray⟩) (.bool a.act) (.bool a.wait)) Tryz.underlying59 rfl infoAn) rfl ?_
          have hfin := HT.out.trans HZ7.out
          have h6 := fin_fam HM.out HALL.out HOM.out.1 hfin (Or.inl ⟨Nat.le_succ _, HL2.out⟩) HRT.out.1 (by rw [HRT.out.2]; exact HOI.out.symm) a p q (own_baseR HO7.out (by have := HT.out.lt (w.heap.size + 1) ⟨Nat.le_succ _, HL2.out⟩; omega)) (fun k hk => Or.inr hk) (.int .i64 a.why) (.int .i64 a.acc) (.int .i64 a.ref) (.slice p a.sc.length q) (.string ⟨a.cl.toArray⟩) (.string ⟨a.us.toArray⟩) (.bool a.act) (.bool a.wait)
          rw [HAE.out]
          exact h6
end Go.Proofs.YthagdkipipldlaaGreatDoor.gra
