/- The developers' Do (written by tools/gen_grh.py). No condition beyond what slices and texts are. -/
import Derived.Test.YthagdkipipldlaaGreatDoorGrp
import Derived.Test.YthagdkipipldlaaGreatDoorGrn
namespace Go.Proofs.YthagdkipipldlaaGreatDoor.gra
open Go.RowKit
open Go.Proofs.YthagdkipipldlaaGreatDoor.oct Go.Proofs.YthagdkipipldlaaGreatDoor.ref Go.Proofs.YthagdkipipldlaaGreatDoor.rows Go.Proofs.YthagdkipipldlaaGreatDoor.rowg Go.Proofs.YthagdkipipldlaaGreatDoor.mpt Go.Proofs.YthagdkipipldlaaGreatDoor.trn Go.Proofs.YthagdkipipldlaaGreatDoor.krd
open Go.Proofs.YthagdkipipldlaaGreatDoor.sha (Tabs)
open Go.Proofs.YthagdkipipldlaaGreatDoor.scp (tx senc senc_len senc_one InS ins_below ins_cell ins_one lt Lst lval lenc GoodL FitS RowA own_good infoStr clone_c key_txt skeyed withinP)

set_option maxRecDepth 100000 in
set_option maxHeartbeats 16000000 in
theorem do_c {w : World} {R : Nat → Prop} {g m room : Nat} {D : DataW Nat} {fl : List DF} (h : BM w R g m D fl room) (hall : ∀ x ∈ fl, RT x.f) (x : CM) (hx : GoodC w x) (ht : Tabs w) (hsep : ∀ b o z, x.c.sc ≠ [] → x.p = some ⟨b, o, z⟩ → b < w.heap.size → ¬ R b) :
    Calls Tryz.prog 29 #[dptr g, cval x] w fun e w' => DoA w w' R g room (doG room (fl.map DF.f) x.c) e := by
  have hpr := PR.mk2 w x #[.int .i64 x.c.kind, .string ⟨x.c.fam.toArray⟩, .int .i64 x.c.ser, .int .i64 x.c.tok, .string ⟨x.c.cl.toArray⟩, .string ⟨x.c.us.toArray⟩, .slice x.p x.c.sc.length x.r, .string ⟨x.c.re.toArray⟩, .string ⟨x.c.ch.toArray⟩, .string ⟨x.c.me.toArray⟩, .string ⟨x.c.ve.toArray⟩, .bool x.c.rf, .int .i64 x.c.edge] #[.int .i64 0, .int .i64 0, .int .i64 0, .slice none 0 0, .string ⟨#[]⟩, .string ⟨#[]⟩, .bool false, .bool false] rfl rfl
  obtain ⟨w2, hw2⟩ : ∃ w2, (w.alloc (.cells #[.int .i64 x.c.kind, .string ⟨x.c.fam.toArray⟩, .int .i64 x.c.ser, .int .i64 x.c.tok, .string ⟨x.c.cl.toArray⟩, .string ⟨x.c.us.toArray⟩, .slice x.p x.c.sc.length x.r, .string ⟨x.c.re.toArray⟩, .string ⟨x.c.ch.toArray⟩, .string ⟨x.c.me.toArray⟩, .string ⟨x.c.ve.toArray⟩, .bool x.c.rf, .int .i64 x.c.edge] 48)).alloc (.cells #[.int .i64 0, .int .i64 0, .int .i64 0, .slice none 0 0, .string ⟨#[]⟩, .string ⟨#[]⟩, .bool false, .bool false] 59) = w2 := ⟨_, rfl⟩
  rw [hw2] at hpr
  have HPR := Lib.hid hpr
  have HM := Lib.hid h
  have HALL := Lib.hid hall
  have HM2 := Lib.hid (h.below hpr.bel)
  have HXX := Lib.hid hx
  have HRF : Hid (∀ (k : Int) W, Calls Tryz.prog 59 #[.int .i64 k] W fun e w' => e = .returned (.agg #[.int .i64 k, .int .i64 0, .int .i64 0, .slice none 0 0, .string ⟨#[]⟩, .string ⟨#[]⟩, .bool false, .bool false]) ∧ Below W.heap.size W w') := Lib.hid fun k W => refusal_c k W
  have HL2 : Hid (w.heap.size + 1 < w2.heap.size) := hpr.ans.lt
  have HB0 : Hid (Below w2.heap.size w2 w2) := Lib.hid (Below.refl _ _)
  obtain ⟨k0, k1, k2, k3, k4, k5, k6, k7, k8, k9, k10, k11, k12⟩ := hpr.cells (Below.refl _ _)
  obtain ⟨z0, z1, z2, z3, z4, z5, z6, z7, f0, f1, f2, f3, f4, f5, f6, f7⟩ := ans_cells hpr.ans
  show Calls _ _ #[dptr g, .agg #[.int .i64 x.c.kind, .string ⟨x.c.fam.toArray⟩, .int .i64 x.c.ser, .int .i64 x.c.tok, .string ⟨x.c.cl.toArray⟩, .string ⟨x.c.us.toArray⟩, .slice x.p x.c.sc.length x.r, .string ⟨x.c.re.toArray⟩, .string ⟨x.c.ch.toArray⟩, .string ⟨x.c.me.toArray⟩, .string ⟨x.c.ve.toArray⟩, .bool x.c.rf, .int .i64 x.c.edge]] w _
  have HMAY : Hid (Calls Tryz.prog 25 #[.agg #[.int .i64 x.c.kind, .string ⟨x.c.fam.toArray⟩, .int .i64 x.c.ser, .int .i64 x.c.tok, .string ⟨x.c.cl.toArray⟩, .string ⟨x.c.us.toArray⟩, .slice x.p x.c.sc.length x.r, .string ⟨x.c.re.toArray⟩, .string ⟨x.c.ch.toArray⟩, .string ⟨x.c.me.toArray⟩, .string ⟨x.c.ve.toArray⟩, .bool x.c.rf, .int .i64 x.c.edge]] w2 fun e w' => e = .returned (.bool (mayG x.c)) ∧ Below w2.heap.size w2 w') := may_c x w2 (hx.below hpr.bel)
  have HSEP : Hid (∀ W, Below w.heap.size w W → ∀ b o z, x.c.sc ≠ [] → x.p = some ⟨b, o, z⟩ → b < W.heap.size → ¬ R b) := fun W _ b o z hs e _ hR => hsep b o z hs e (h.lt b hR) hR
  cases hmay : mayG x.c with
  | false =>
    have HSP : Hid (doG room (fl.map DF.f) x.c = (fl.map DF.f, no 1)) := by show _ = _; unfold doG; rw [if_neg (by rw [hmay]; simp)]
    rw [HSP.out]
    rw [hmay] at HMAY
    clear h hall hx hpr hmay ht hsep
    go_enter Tryz.func29, Tryz.ntmps29
    go_wp2_with (first
      | (go_at_call 25; (with_reducible refine HMAY.out.mono ?_); rintro e w3 ⟨rfl, hb3⟩; have HB3 := Lib.hid hb3; obtain ⟨k0, k1, k2, k3, k4, k5, k6, k7, k8, k9, k10, k11, k12⟩ := HPR.out.cells hb3; clear hb3)
      | (go_at_call 59; (with_reducible refine (HRF.out _ _).mono ?_); rintro e w4 ⟨rfl, hb4⟩; have HB4 := Lib.hid (bnext HB3.out hb4); obtain ⟨z0, z1, z2, z3, z4, z5, z6, z7, f0, f1, f2, f3, f4, f5, f6, f7⟩ := ans_cells (HPR.out.ans.below HB4.out); clear hb4)
      | fail)
    refine bodyPost_ret (results_blk Tryz.results29 _ _ (w.heap.size + 1) 59 [.int .i64 1, .int .i64 0, .int .i64 0, .slice none 0 0, .string ⟨#[]⟩, .string ⟨#[]⟩, .bool false, .bool false] _ rfl (set8_blk (HPR.out.ans.below HB4.out) (.int .i64 1) (.int .i64 0) (.int .i64 0) (.slice none 0 0) (.string ⟨#[]⟩) (.string ⟨#[]⟩) (.bool false) (.bool false)) Tryz.underlying59 rfl infoAn) rfl ?_
    exact fin_same HM.out HALL.out (bnext HPR.out.bel HB4.out) (Nat.lt_of_lt_of_le HL2.out HB4.out.size) (no 1) rfl _ _ _ _ _ _ _ _
  | true =>
    rw [hmay] at HMAY
    have hm := (mayG_iff _).1 hmay
    have HSP : Hid (doG room (fl.map DF.f) x.c = specG room (fl.map DF.f) x.c) := by show _ = _; unfold doG; rw [if_pos hmay]; rfl
    rw [HSP.out]
    have HT2 := Lib.hid (ht.below hpr.bel)
    obtain ⟨sp, hsp⟩ : ∃ sp, specG room (fl.map DF.f) x.c = sp := ⟨_, rfl⟩
    rw [hsp]
    have HSPE := Lib.hid hsp
    clear hsp
    by_cases hk1 : x.c.kind = 1
    · have HDE : Hid (∀ W, Below w2.heap.size w2 W → Calls Tryz.prog 88 #[dptr g, .agg #[.int .i64 x.c.kind, .string ⟨x.c.fam.toArray⟩, .int .i64 x.c.ser, .int .i64 x.c.tok, .string ⟨x.c.cl.toArray⟩, .string ⟨x.c.us.toArray⟩, .slice x.p x.c.sc.length x.r, .string ⟨x.c.re.toArray⟩, .string ⟨x.c.ch.toArray⟩, .string ⟨x.c.me.toArray⟩, .string ⟨x.c.ve.toArray⟩, .bool x.c.rf, .int .i64 x.c.edge]] W fun e w' => DoA W w' R g room sp e) := fun W hW => by
        have hd := authorize_c (HM2.out.below hW) HALL.out x ((HXX.out.below HPR.out.bel).below hW) hm hk1
        rw [HSPE.out] at hd
        exact hd
      have HDO : Hid (∀ W, Calls Tryz.prog 60 #[dptr g, .int .i64 x.c.kind] W fun e w' => e = .returned (.func (.func 88) #[dptr g] #[]) ∧ w' = W) := fun W => by rw [hk1]; exact deedOf1_c g W
      clear h hall hx hpr hmay ht hsep hm hk1
      go_enter Tryz.func29, Tryz.ntmps29
      go_wp2_with (first
        | (go_at_call 25; (with_reducible refine HMAY.out.mono ?_); rintro e w3 ⟨rfl, hb3⟩; have HB3 := Lib.hid hb3; obtain ⟨k0, k1, k2, k3, k4, k5, k6, k7, k8, k9, k10, k11, k12⟩ := HPR.out.cells hb3; clear hb3)
        | (go_at_call 60; (with_reducible refine (HDO.out _).mono ?_); rintro e wd ⟨rfl, hwd⟩; obtain rfl : w3 = wd := hwd.symm)
        | fail)
      refine (HDE.out w3 HB3.out).mono ?_
      intro e w4 hd
      obtain ⟨p, q, rfl, hsz, hfin, hold⟩ := doA_wrap (fun k hk => HM.out.lt k hk) (bnext HPR.out.bel HB3.out) (Nat.lt_of_lt_of_le HL2.out HB3.out.size) hd
      have HFIN := Lib.hid hfin
      have hA4 : Blk w4 (w.heap.size + 1) 59 zerA := (hold _ (Nat.lt_of_lt_of_le HL2.out HB3.out.size) (Nat.le_succ _)).trans (HPR.out.ans.below HB3.out)
      have HA4 := Lib.hid hA4
      obtain ⟨z0, z1, z2, z3, z4, z5, z6, z7, f0, f1, f2, f3, f4, f5, f6, f7⟩ := ans_cells hA4
      clear hd hsz hfin hold hA4
      obtain ⟨a, ha⟩ : ∃ a, sp.2 = a := ⟨_, rfl⟩
      rw [ha] at HFIN ⊢
      rw [show ansv a p q = .agg #[.int .i64 a.why, .int .i64 a.acc, .int .i64 a.ref, .slice p a.sc.length q, .string ⟨a.cl.toArray⟩, .string ⟨a.us.toArray⟩, .bool a.act, .bool a.wait] from rfl]
      clear ha
      go_wp2_with fail
      refine bodyPost_ret (results_blk Tryz.results29 _ _ (w.heap.size + 1) 59 [.int .i64 a.why, .int .i64 a.acc, .int .i64 a.ref, .slice p a.sc.length q, .string ⟨a.cl.toArray⟩, .string ⟨a.us.toArray⟩, .bool a.act, .bool a.wait] _ rfl (set8_blk HA4.out (.int .i64 a.why) (.int .i64 a.acc) (.int .i64 a.ref) (.slice p a.sc.length q) (.string ⟨a.cl.toArray⟩) (.string ⟨a.us.toArray⟩) (.bool a.act) (.bool a.wait)) Tryz.underlying59 rfl infoAn) rfl ?_
      exact HFIN.out _ _ _ _ _ _ _ _
    by_cases hk2 : x.c.kind = 2
    · have HDE : Hid (∀ W, Below w2.heap.size w2 W → Calls Tryz.prog 89 #[dptr g, .agg #[.int .i64 x.c.kind, .string ⟨x.c.fam.toArray⟩, .int .i64 x.c.ser, .int .i64 x.c.tok, .string ⟨x.c.cl.toArray⟩, .string ⟨x.c.us.toArray⟩, .slice x.p x.c.sc.length x.r, .string ⟨x.c.re.toArray⟩, .string ⟨x.c.ch.toArray⟩, .string ⟨x.c.me.toArray⟩, .string ⟨x.c.ve.toArray⟩, .bool x.c.rf, .int .i64 x.c.edge]] W fun e w' => DoA W w' R g room sp e) := fun W hW => by
        have hd := redeem_c (HM2.out.below hW) HALL.out x ((HXX.out.below HPR.out.bel).below hW) hm hk2 (HT2.out.below hW)
        rw [HSPE.out] at hd
        exact hd
      have HDO : Hid (∀ W, Calls Tryz.prog 60 #[dptr g, .int .i64 x.c.kind] W fun e w' => e = .returned (.func (.func 89) #[dptr g] #[]) ∧ w' = W) := fun W => by rw [hk2]; exact deedOf2_c g W
      clear h hall hx hpr hmay ht hsep hm hk1 hk2
      go_enter Tryz.func29, Tryz.ntmps29
      go_wp2_with (first
        | (go_at_call 25; (with_reducible refine HMAY.out.mono ?_); rintro e w3 ⟨rfl, hb3⟩; have HB3 := Lib.hid hb3; obtain ⟨k0, k1, k2, k3, k4, k5, k6, k7, k8, k9, k10, k11, k12⟩ := HPR.out.cells hb3; clear hb3)
        | (go_at_call 60; (with_reducible refine (HDO.out _).mono ?_); rintro e wd ⟨rfl, hwd⟩; obtain rfl : w3 = wd := hwd.symm)
        | fail)
      refine (HDE.out w3 HB3.out).mono ?_
      intro e w4 hd
      obtain ⟨p, q, rfl, hsz, hfin, hold⟩ := doA_wrap (fun k hk => HM.out.lt k hk) (bnext HPR.out.bel HB3.out) (Nat.lt_of_lt_of_le HL2.out HB3.out.size) hd
      have HFIN := Lib.hid hfin
      have hA4 : Blk w4 (w.heap.size + 1) 59 zerA := (hold _ (Nat.lt_of_lt_of_le HL2.out HB3.out.size) (Nat.le_succ _)).trans (HPR.out.ans.below HB3.out)
      have HA4 := Lib.hid hA4
      obtain ⟨z0, z1, z2, z3, z4, z5, z6, z7, f0, f1, f2, f3, f4, f5, f6, f7⟩ := ans_cells hA4
      clear hd hsz hfin hold hA4
      obtain ⟨a, ha⟩ : ∃ a, sp.2 = a := ⟨_, rfl⟩
      rw [ha] at HFIN ⊢
      rw [show ansv a p q = .agg #[.int .i64 a.why, .int .i64 a.acc, .int .i64 a.ref, .slice p a.sc.length q, .string ⟨a.cl.toArray⟩, .string ⟨a.us.toArray⟩, .bool a.act, .bool a.wait] from rfl]
      clear ha
      go_wp2_with fail
      refine bodyPost_ret (results_blk Tryz.results29 _ _ (w.heap.size + 1) 59 [.int .i64 a.why, .int .i64 a.acc, .int .i64 a.ref, .slice p a.sc.length q, .string ⟨a.cl.toArray⟩, .string ⟨a.us.toArray⟩, .bool a.act, .bool a.wait] _ rfl (set8_blk HA4.out (.int .i64 a.why) (.int .i64 a.acc) (.int .i64 a.ref) (.slice p a.sc.length q) (.string ⟨a.cl.toArray⟩) (.string ⟨a.us.toArray⟩) (.bool a.act) (.bool a.wait)) Tryz.underlying59 rfl infoAn) rfl ?_
      exact HFIN.out _ _ _ _ _ _ _ _
    by_cases hk3 : x.c.kind = 3
    · have HDE : Hid (∀ W, Below w2.heap.size w2 W → Calls Tryz.prog 90 #[dptr g, .agg #[.int .i64 x.c.kind, .string ⟨x.c.fam.toArray⟩, .int .i64 x.c.ser, .int .i64 x.c.tok, .string ⟨x.c.cl.toArray⟩, .string ⟨x.c.us.toArray⟩, .slice x.p x.c.sc.length x.r, .string ⟨x.c.re.toArray⟩, .string ⟨x.c.ch.toArray⟩, .string ⟨x.c.me.toArray⟩, .string ⟨x.c.ve.toArray⟩, .bool x.c.rf, .int .i64 x.c.edge]] W fun e w' => DoA W w' R g room sp e) := fun W hW => by
        have hd := refresh_c (HM2.out.below hW) HALL.out x ((HXX.out.below HPR.out.bel).below hW) hm hk3 (HSEP.out W (bnext HPR.out.bel hW))
        rw [HSPE.out] at hd
        exact hd
      have HDO : Hid (∀ W, Calls Tryz.prog 60 #[dptr g, .int .i64 x.c.kind] W fun e w' => e = .returned (.func (.func 90) #[dptr g] #[]) ∧ w' = W) := fun W => by rw [hk3]; exact deedOf3_c g W
      clear h hall hx hpr hmay ht hsep hm hk1 hk2 hk3
      go_enter Tryz.func29, Tryz.ntmps29
      go_wp2_with (first
        | (go_at_call 25; (with_reducible refine HMAY.out.mono ?_); rintro e w3 ⟨rfl, hb3⟩; have HB3 := Lib.hid hb3; obtain ⟨k0, k1, k2, k3, k4, k5, k6, k7, k8, k9, k10, k11, k12⟩ := HPR.out.cells hb3; clear hb3)
        | (go_at_call 60; (with_reducible refine (HDO.out _).mono ?_); rintro e wd ⟨rfl, hwd⟩; obtain rfl : w3 = wd := hwd.symm)
        | fail)
      refine (HDE.out w3 HB3.out).mono ?_
      intro e w4 hd
      obtain ⟨p, q, rfl, hsz, hfin, hold⟩ := doA_wrap (fun k hk => HM.out.lt k hk) (bnext HPR.out.bel HB3.out) (Nat.lt_of_lt_of_le HL2.out HB3.out.size) hd
      have HFIN := Lib.hid hfin
      have hA4 : Blk w4 (w.heap.size + 1) 59 zerA := (hold _ (Nat.lt_of_lt_of_le HL2.out HB3.out.size) (Nat.le_succ _)).trans (HPR.out.ans.below HB3.out)
      have HA4 := Lib.hid hA4
      obtain ⟨z0, z1, z2, z3, z4, z5, z6, z7, f0, f1, f2, f3, f4, f5, f6, f7⟩ := ans_cells hA4
      clear hd hsz hfin hold hA4
      obtain ⟨a, ha⟩ : ∃ a, sp.2 = a := ⟨_, rfl⟩
      rw [ha] at HFIN ⊢
      rw [show ansv a p q = .agg #[.int .i64 a.why, .int .i64 a.acc, .int .i64 a.ref, .slice p a.sc.length q, .string ⟨a.cl.toArray⟩, .string ⟨a.us.toArray⟩, .bool a.act, .bool a.wait] from rfl]
      clear ha
      go_wp2_with fail
      refine bodyPost_ret (results_blk Tryz.results29 _ _ (w.heap.size + 1) 59 [.int .i64 a.why, .int .i64 a.acc, .int .i64 a.ref, .slice p a.sc.length q, .string ⟨a.cl.toArray⟩, .string ⟨a.us.toArray⟩, .bool a.act, .bool a.wait] _ rfl (set8_blk HA4.out (.int .i64 a.why) (.int .i64 a.acc) (.int .i64 a.ref) (.slice p a.sc.length q) (.string ⟨a.cl.toArray⟩) (.string ⟨a.us.toArray⟩) (.bool a.act) (.bool a.wait)) Tryz.underlying59 rfl infoAn) rfl ?_
      exact HFIN.out _ _ _ _ _ _ _ _
    by_cases hk4 : x.c.kind = 4
    · have HDE : Hid (∀ W, Below w2.heap.size w2 W → Calls Tryz.prog 91 #[dptr g, .agg #[.int .i64 x.c.kind, .string ⟨x.c.fam.toArray⟩, .int .i64 x.c.ser, .int .i64 x.c.tok, .string ⟨x.c.cl.toArray⟩, .string ⟨x.c.us.toArray⟩, .slice x.p x.c.sc.length x.r, .string ⟨x.c.re.toArray⟩, .string ⟨x.c.ch.toArray⟩, .string ⟨x.c.me.toArray⟩, .string ⟨x.c.ve.toArray⟩, .bool x.c.rf, .int .i64 x.c.edge]] W fun e w' => DoA W w' R g room sp e) := fun W hW => by
        have hd := issue_c (HM2.out.below hW) HALL.out x ((HXX.out.below HPR.out.bel).below hW) hm hk4
        rw [HSPE.out] at hd
        exact hd
      have HDO : Hid (∀ W, Calls Tryz.prog 60 #[dptr g, .int .i64 x.c.kind] W fun e w' => e = .returned (.func (.func 91) #[dptr g] #[]) ∧ w' = W) := fun W => by rw [hk4]; exact deedOf4_c g W
      clear h hall hx hpr hmay ht hsep hm hk1 hk2 hk3 hk4
      go_enter Tryz.func29, Tryz.ntmps29
      go_wp2_with (first
        | (go_at_call 25; (with_reducible refine HMAY.out.mono ?_); rintro e w3 ⟨rfl, hb3⟩; have HB3 := Lib.hid hb3; obtain ⟨k0, k1, k2, k3, k4, k5, k6, k7, k8, k9, k10, k11, k12⟩ := HPR.out.cells hb3; clear hb3)
        | (go_at_call 60; (with_reducible refine (HDO.out _).mono ?_); rintro e wd ⟨rfl, hwd⟩; obtain rfl : w3 = wd := hwd.symm)
        | fail)
      refine (HDE.out w3 HB3.out).mono ?_
      intro e w4 hd
      obtain ⟨p, q, rfl, hsz, hfin, hold⟩ := doA_wrap (fun k hk => HM.out.lt k hk) (bnext HPR.out.bel HB3.out) (Nat.lt_of_lt_of_le HL2.out HB3.out.size) hd
      have HFIN := Lib.hid hfin
      have hA4 : Blk w4 (w.heap.size + 1) 59 zerA := (hold _ (Nat.lt_of_lt_of_le HL2.out HB3.out.size) (Nat.le_succ _)).trans (HPR.out.ans.below HB3.out)
      have HA4 := Lib.hid hA4
      obtain ⟨z0, z1, z2, z3, z4, z5, z6, z7, f0, f1, f2, f3, f4, f5, f6, f7⟩ := ans_cells hA4
      clear hd hsz hfin hold hA4
      obtain ⟨a, ha⟩ : ∃ a, sp.2 = a := ⟨_, rfl⟩
      rw [ha] at HFIN ⊢
      rw [show ansv a p q = .agg #[.int .i64 a.why, .int .i64 a.acc, .int .i64 a.ref, .slice p a.sc.length q, .string ⟨a.cl.toArray⟩, .string ⟨a.us.toArray⟩, .bool a.act, .bool a.wait] from rfl]
      clear ha
      go_wp2_with fail
      refine bodyPost_ret (results_blk Tryz.results29 _ _ (w.heap.size + 1) 59 [.int .i64 a.why, .int .i64 a.acc, .int .i64 a.ref, .slice p a.sc.length q, .string ⟨a.cl.toArray⟩, .string ⟨a.us.toArray⟩, .bool a.act, .bool a.wait] _ rfl (set8_blk HA4.out (.int .i64 a.why) (.int .i64 a.acc) (.int .i64 a.ref) (.slice p a.sc.length q) (.string ⟨a.cl.toArray⟩) (.string ⟨a.us.toArray⟩) (.bool a.act) (.bool a.wait)) Tryz.underlying59 rfl infoAn) rfl ?_
      exact HFIN.out _ _ _ _ _ _ _ _
    by_cases hk5 : x.c.kind = 5
    · have HDE : Hid (∀ W, Below w2.heap.size w2 W → Calls Tryz.prog 92 #[dptr g, .agg #[.int .i64 x.c.kind, .string ⟨x.c.fam.toArray⟩, .int .i64 x.c.ser, .int .i64 x.c.tok, .string ⟨x.c.cl.toArray⟩, .string ⟨x.c.us.toArray⟩, .slice x.p x.c.sc.length x.r, .string ⟨x.c.re.toArray⟩, .string ⟨x.c.ch.toArray⟩, .string ⟨x.c.me.toArray⟩, .string ⟨x.c.ve.toArray⟩, .bool x.c.rf, .int .i64 x.c.edge]] W fun e w' => DoA W w' R g room sp e) := fun W hW => by
        have hd := revoke_c (HM2.out.below hW) HALL.out x ((HXX.out.below HPR.out.bel).below hW) hm hk5
        rw [HSPE.out] at hd
        exact hd
      have HDO : Hid (∀ W, Calls Tryz.prog 60 #[dptr g, .int .i64 x.c.kind] W fun e w' => e = .returned (.func (.func 92) #[dptr g] #[]) ∧ w' = W) := fun W => by rw [hk5]; exact deedOf5_c g W
      clear h hall hx hpr hmay ht hsep hm hk1 hk2 hk3 hk4 hk5
      go_enter Tryz.func29, Tryz.ntmps29
      go_wp2_with (first
        | (go_at_call 25; (with_reducible refine HMAY.out.mono ?_); rintro e w3 ⟨rfl, hb3⟩; have HB3 := Lib.hid hb3; obtain ⟨k0, k1, k2, k3, k4, k5, k6, k7, k8, k9, k10, k11, k12⟩ := HPR.out.cells hb3; clear hb3)
        | (go_at_call 60; (with_reducible refine (HDO.out _).mono ?_); rintro e wd ⟨rfl, hwd⟩; obtain rfl : w3 = wd := hwd.symm)
        | fail)
      refine (HDE.out w3 HB3.out).mono ?_
      intro e w4 hd
      obtain ⟨p, q, rfl, hsz, hfin, hold⟩ := doA_wrap (fun k hk => HM.out.lt k hk) (bnext HPR.out.bel HB3.out) (Nat.lt_of_lt_of_le HL2.out HB3.out.size) hd
      have HFIN := Lib.hid hfin
      have hA4 : Blk w4 (w.heap.size + 1) 59 zerA := (hold _ (Nat.lt_of_lt_of_le HL2.out HB3.out.size) (Nat.le_succ _)).trans (HPR.out.ans.below HB3.out)
      have HA4 := Lib.hid hA4
      obtain ⟨z0, z1, z2, z3, z4, z5, z6, z7, f0, f1, f2, f3, f4, f5, f6, f7⟩ := ans_cells hA4
      clear hd hsz hfin hold hA4
      obtain ⟨a, ha⟩ : ∃ a, sp.2 = a := ⟨_, rfl⟩
      rw [ha] at HFIN ⊢
      rw [show ansv a p q = .agg #[.int .i64 a.why, .int .i64 a.acc, .int .i64 a.ref, .slice p a.sc.length q, .string ⟨a.cl.toArray⟩, .string ⟨a.us.toArray⟩, .bool a.act, .bool a.wait] from rfl]
      clear ha
      go_wp2_with fail
      refine bodyPost_ret (results_blk Tryz.results29 _ _ (w.heap.size + 1) 59 [.int .i64 a.why, .int .i64 a.acc, .int .i64 a.ref, .slice p a.sc.length q, .string ⟨a.cl.toArray⟩, .string ⟨a.us.toArray⟩, .bool a.act, .bool a.wait] _ rfl (set8_blk HA4.out (.int .i64 a.why) (.int .i64 a.acc) (.int .i64 a.ref) (.slice p a.sc.length q) (.string ⟨a.cl.toArray⟩) (.string ⟨a.us.toArray⟩) (.bool a.act) (.bool a.wait)) Tryz.underlying59 rfl infoAn) rfl ?_
      exact HFIN.out _ _ _ _ _ _ _ _
    by_cases hk6 : x.c.kind = 6
    · have HDE : Hid (∀ W, Below w2.heap.size w2 W → Calls Tryz.prog 93 #[dptr g, .agg #[.int .i64 x.c.kind, .string ⟨x.c.fam.toArray⟩, .int .i64 x.c.ser, .int .i64 x.c.tok, .string ⟨x.c.cl.toArray⟩, .string ⟨x.c.us.toArray⟩, .slice x.p x.c.sc.length x.r, .string ⟨x.c.re.toArray⟩, .string ⟨x.c.ch.toArray⟩, .string ⟨x.c.me.toArray⟩, .string ⟨x.c.ve.toArray⟩, .bool x.c.rf, .int .i64 x.c.edge]] W fun e w' => DoA W w' R g room sp e) := fun W hW => by
        have hd := look_c (HM2.out.below hW) HALL.out x ((HXX.out.below HPR.out.bel).below hW) hm hk6
        rw [HSPE.out] at hd
        exact hd
      have HDO : Hid (∀ W, Calls Tryz.prog 60 #[dptr g, .int .i64 x.c.kind] W fun e w' => e = .returned (.func (.func 93) #[dptr g] #[]) ∧ w' = W) := fun W => by rw [hk6]; exact deedOf6_c g W
      clear h hall hx hpr hmay ht hsep hm hk1 hk2 hk3 hk4 hk5 hk6
      go_enter Tryz.func29, Tryz.ntmps29
      go_wp2_with (first
        | (go_at_call 25; (with_reducible refine HMAY.out.mono ?_); rintro e w3 ⟨rfl, hb3⟩; have HB3 := Lib.hid hb3; obtain ⟨k0, k1, k2, k3, k4, k5, k6, k7, k8, k9, k10, k11, k12⟩ := HPR.out.cells hb3; clear hb3)
        | (go_at_call 60; (with_reducible refine (HDO.out _).mono ?_); rintro e wd ⟨rfl, hwd⟩; obtain rfl : w3 = wd := hwd.symm)
        | fail)
      refine (HDE.out w3 HB3.out).mono ?_
      intro e w4 hd
      obtain ⟨p, q, rfl, hsz, hfin, hold⟩ := doA_wrap (fun k hk => HM.out.lt k hk) (bnext HPR.out.bel HB3.out) (Nat.lt_of_lt_of_le HL2.out HB3.out.size) hd
      have HFIN := Lib.hid hfin
      have hA4 : Blk w4 (w.heap.size + 1) 59 zerA := (hold _ (Nat.lt_of_lt_of_le HL2.out HB3.out.size) (Nat.le_succ _)).trans (HPR.out.ans.below HB3.out)
      have HA4 := Lib.hid hA4
      obtain ⟨z0, z1, z2, z3, z4, z5, z6, z7, f0, f1, f2, f3, f4, f5, f6, f7⟩ := ans_cells hA4
      clear hd hsz hfin hold hA4
      obtain ⟨a, ha⟩ : ∃ a, sp.2 = a := ⟨_, rfl⟩
      rw [ha] at HFIN ⊢
      rw [show ansv a p q = .agg #[.int .i64 a.why, .int .i64 a.acc, .int .i64 a.ref, .slice p a.sc.length q, .string ⟨a.cl.toArray⟩, .string ⟨a.us.toArray⟩, .bool a.act, .bool a.wait] from rfl]
      clear ha
      go_wp2_with fail
      refine bodyPost_ret (results_blk Tryz.results29 _ _ (w.heap.size + 1) 59 [.int .i64 a.why, .int .i64 a.acc, .int .i64 a.ref, .slice p a.sc.length q, .string ⟨a.cl.toArray⟩, .string ⟨a.us.toArray⟩, .bool a.act, .bool a.wait] _ rfl (set8_blk HA4.out (.int .i64 a.why) (.int .i64 a.acc) (.int .i64 a.ref) (.slice p a.sc.length q) (.string ⟨a.cl.toArray⟩) (.string ⟨a.us.toArray⟩) (.bool a.act) (.bool a.wait)) Tryz.underlying59 rfl infoAn) rfl ?_
      exact HFIN.out _ _ _ _ _ _ _ _
    have hk7 : x.c.kind = 7 := by have := hm.kind; omega
    have HDE : Hid (∀ W, Below w2.heap.size w2 W → Calls Tryz.prog 94 #[dptr g, .agg #[.int .i64 x.c.kind, .string ⟨x.c.fam.toArray⟩, .int .i64 x.c.ser, .int .i64 x.c.tok, .string ⟨x.c.cl.toArray⟩, .string ⟨x.c.us.toArray⟩, .slice x.p x.c.sc.length x.r, .string ⟨x.c.re.toArray⟩, .string ⟨x.c.ch.toArray⟩, .string ⟨x.c.me.toArray⟩, .string ⟨x.c.ve.toArray⟩, .bool x.c.rf, .int .i64 x.c.edge]] W fun e w' => DoA W w' R g room sp e) := fun W hW => by
      have hd := done_c (HM2.out.below hW) HALL.out x ((HXX.out.below HPR.out.bel).below hW) hm hk7
      rw [HSPE.out] at hd
      exact hd
    have HDO : Hid (∀ W, Calls Tryz.prog 60 #[dptr g, .int .i64 x.c.kind] W fun e w' => e = .returned (.func (.func 94) #[dptr g] #[]) ∧ w' = W) := fun W => by rw [hk7]; exact deedOf7_c g W
    clear h hall hx hpr hmay ht hsep hm hk1 hk2 hk3 hk4 hk5 hk6 hk7
    go_enter Tryz.func29, Tryz.ntmps29
    go_wp2_with (first
      | (go_at_call 25; (with_reducible refine HMAY.out.mono ?_); rintro e w3 ⟨rfl, hb3⟩; have HB3 := Lib.hid hb3; obtain ⟨k0, k1, k2, k3, k4, k5, k6, k7, k8, k9, k10, k11, k12⟩ := HPR.out.cells hb3; clear hb3)
      | (go_at_call 60; (with_reducible refine (HDO.out _).mono ?_); rintro e wd ⟨rfl, hwd⟩; obtain rfl : w3 = wd := hwd.symm)
      | fail)
    refine (HDE.out w3 HB3.out).mono ?_
    intro e w4 hd
    obtain ⟨p, q, rfl, hsz, hfin, hold⟩ := doA_wrap (fun k hk => HM.out.lt k hk) (bnext HPR.out.bel HB3.out) (Nat.lt_of_lt_of_le HL2.out HB3.out.size) hd
    have HFIN := Lib.hid hfin
    have hA4 : Blk w4 (w.heap.size + 1) 59 zerA := (hold _ (Nat.lt_of_lt_of_le HL2.out HB3.out.size) (Nat.le_succ _)).trans (HPR.out.ans.below HB3.out)
    have HA4 := Lib.hid hA4
    obtain ⟨z0, z1, z2, z3, z4, z5, z6, z7, f0, f1, f2, f3, f4, f5, f6, f7⟩ := ans_cells hA4
    clear hd hsz hfin hold hA4
    obtain ⟨a, ha⟩ : ∃ a, sp.2 = a := ⟨_, rfl⟩
    rw [ha] at HFIN ⊢
    rw [show ansv a p q = .agg #[.int .i64 a.why, .int .i64 a.acc, .int .i64 a.ref, .slice p a.sc.length q, .string ⟨a.cl.toArray⟩, .string ⟨a.us.toArray⟩, .bool a.act, .bool a.wait] from rfl]
    clear ha
    go_wp2_with fail
    refine bodyPost_ret (results_blk Tryz.results29 _ _ (w.heap.size + 1) 59 [.int .i64 a.why, .int .i64 a.acc, .int .i64 a.ref, .slice p a.sc.length q, .string ⟨a.cl.toArray⟩, .string ⟨a.us.toArray⟩, .bool a.act, .bool a.wait] _ rfl (set8_blk HA4.out (.int .i64 a.why) (.int .i64 a.acc) (.int .i64 a.ref) (.slice p a.sc.length q) (.string ⟨a.cl.toArray⟩) (.string ⟨a.us.toArray⟩) (.bool a.act) (.bool a.wait)) Tryz.underlying59 rfl infoAn) rfl ?_
    exact HFIN.out _ _ _ _ _ _ _ _
end Go.Proofs.YthagdkipipldlaaGreatDoor.gra
