/- The developers' issue (written by tools/gen_grh.py). No condition beyond what slices and texts are. -/
import Derived.Test.YthagdkipipldlaaGreatDoorGri
namespace Go.Proofs.YthagdkipipldlaaGreatDoor.gra
open Go.RowKit
open Go.Proofs.YthagdkipipldlaaGreatDoor.oct Go.Proofs.YthagdkipipldlaaGreatDoor.ref Go.Proofs.YthagdkipipldlaaGreatDoor.rows Go.Proofs.YthagdkipipldlaaGreatDoor.rowg Go.Proofs.YthagdkipipldlaaGreatDoor.mpt Go.Proofs.YthagdkipipldlaaGreatDoor.trn Go.Proofs.YthagdkipipldlaaGreatDoor.krd
open Go.Proofs.YthagdkipipldlaaGreatDoor.sha (Tabs)
open Go.Proofs.YthagdkipipldlaaGreatDoor.scp (tx senc senc_len senc_one InS ins_below ins_cell ins_one lt Lst lval lenc GoodL FitS RowA own_good infoStr clone_c key_txt skeyed withinP)

set_option maxRecDepth 100000 in
set_option maxHeartbeats 16000000 in
theorem issue_c {w : World} {R : Nat → Prop} {g m room : Nat} {D : DataW Nat} {fl : List DF} (h : BM w R g m D fl room) (hall : ∀ x ∈ fl, RT x.f) (x : CM) (hx : GoodC w x) (hm : MayT x.c) (hk : x.c.kind = 4) :
    Calls Tryz.prog 91 #[dptr g, cval x] w fun e w' => DoA w w' R g room (specG room (fl.map DF.f) x.c) e := by
  have hpr := PR.mk2 w x #[.int .i64 x.c.kind, .string ⟨x.c.fam.toArray⟩, .int .i64 x.c.ser, .int .i64 x.c.tok, .string ⟨x.c.cl.toArray⟩, .string ⟨x.c.us.toArray⟩, .slice x.p x.c.sc.length x.r, .string ⟨x.c.re.toArray⟩, .string ⟨x.c.ch.toArray⟩, .string ⟨x.c.me.toArray⟩, .string ⟨x.c.ve.toArray⟩, .bool x.c.rf, .int .i64 x.c.edge] #[.int .i64 0, .int .i64 0, .int .i64 0, .slice none 0 0, .string ⟨#[]⟩, .string ⟨#[]⟩, .bool false, .bool false] rfl rfl
  obtain ⟨w2, hw2⟩ : ∃ w2, (w.alloc (.cells #[.int .i64 x.c.kind, .string ⟨x.c.fam.toArray⟩, .int .i64 x.c.ser, .int .i64 x.c.tok, .string ⟨x.c.cl.toArray⟩, .string ⟨x.c.us.toArray⟩, .slice x.p x.c.sc.length x.r, .string ⟨x.c.re.toArray⟩, .string ⟨x.c.ch.toArray⟩, .string ⟨x.c.me.toArray⟩, .string ⟨x.c.ve.toArray⟩, .bool x.c.rf, .int .i64 x.c.edge] 48)).alloc (.cells #[.int .i64 0, .int .i64 0, .int .i64 0, .slice none 0 0, .string ⟨#[]⟩, .string ⟨#[]⟩, .bool false, .bool false] 59) = w2 := ⟨_, rfl⟩
  rw [hw2] at hpr
  have HPR := Lib.hid hpr
  have HM := Lib.hid h
  have HALL := Lib.hid hall
  have HM2 := Lib.hid (h.below hpr.bel)
  have HXX := Lib.hid hx
  have HMM := Lib.hid hm
  have HKK := Lib.hid hk
  have HRF : Hid (∀ (k : Int) W, Calls Tryz.prog 59 #[.int .i64 k] W fun e w' => e = .returned (.agg #[.int .i64 k, .int .i64 0, .int .i64 0, .slice none 0 0, .string ⟨#[]⟩, .string ⟨#[]⟩, .bool false, .bool false]) ∧ Below W.heap.size W w') := Lib.hid fun k W => refusal_c k W
  have HL2 : Hid (w.heap.size + 1 < w2.heap.size) := hpr.ans.lt
  have HB0 : Hid (Below w2.heap.size w2 w2) := Lib.hid (Below.refl _ _)
  obtain ⟨k0, k1, k2, k3, k4, k5, k6, k7, k8, k9, k10, k11, k12⟩ := hpr.cells (Below.refl _ _)
  obtain ⟨z0, z1, z2, z3, z4, z5, z6, z7, f0, f1, f2, f3, f4, f5, f6, f7⟩ := ans_cells hpr.ans
  show Calls _ _ #[dptr g, .agg #[.int .i64 x.c.kind, .string ⟨x.c.fam.toArray⟩, .int .i64 x.c.ser, .int .i64 x.c.tok, .string ⟨x.c.cl.toArray⟩, .string ⟨x.c.us.toArray⟩, .slice x.p x.c.sc.length x.r, .string ⟨x.c.re.toArray⟩, .string ⟨x.c.ch.toArray⟩, .string ⟨x.c.me.toArray⟩, .string ⟨x.c.ve.toArray⟩, .bool x.c.rf, .int .i64 x.c.edge]] w _
  have hfl : x.c.fam.length ≤ 140737488351232 := hx.fam
  cases hg : getD fl x.c.fam with
  | some o =>
    have HSP := Lib.hid (spec_same (room := room) h hg (a := no 1) fun b => by unfold stepG; rw [if_neg (by omega), if_pos hk]; rfl)
    rw [HSP.out]
    have HBG : Hid (Calls Tryz.prog 107 #[dptr g, .agg #[.string ⟨x.c.fam.toArray⟩, .string ⟨x.c.cl.toArray⟩, .string ⟨#[]⟩, .slice x.p x.c.sc.length x.r, .string ⟨#[]⟩, .string ⟨#[]⟩, .string ⟨#[]⟩, .int .i64 0, .slice none 0 0, .bool false, .slice none 0 0]] w2 fun e w' => e = .returned (.tuple #[.pointer none, .int .i64 1]) ∧ Below w2.heap.size w2 w') := begun_there HM2.out ⟨0, x.c.fam, x.c.cl, [], x.l, [], [], [], 0, none, 0, [], false, none, 0, []⟩ hfl o hg
    clear h hall hx hm hk hpr hfl hg
    go_enter Tryz.func91, Tryz.ntmps91
    go_wp2_with (first
      | (go_at_call 107; (with_reducible refine HBG.out.mono ?_); rintro e w3 ⟨rfl, hb3⟩; have HB3 := Lib.hid hb3; clear hb3)
      | (go_at_call 59; (with_reducible refine (HRF.out _ _).mono ?_); rintro e w4 ⟨rfl, hb4⟩; have HB4 := Lib.hid (bnext HB3.out hb4); obtain ⟨z0, z1, z2, z3, z4, z5, z6, z7, f0, f1, f2, f3, f4, f5, f6, f7⟩ := ans_cells (HPR.out.ans.below HB4.out); clear hb4)
      | fail)
    refine bodyPost_ret (results_blk Tryz.results91 _ _ (w.heap.size + 1) 59 [.int .i64 1, .int .i64 0, .int .i64 0, .slice none 0 0, .string ⟨#[]⟩, .string ⟨#[]⟩, .bool false, .bool false] _ rfl (set8_blk (HPR.out.ans.below HB4.out) (.int .i64 1) (.int .i64 0) (.int .i64 0) (.slice none 0 0) (.string ⟨#[]⟩) (.string ⟨#[]⟩) (.bool false) (.bool false)) Tryz.underlying59 rfl infoAn) rfl ?_
    exact fin_same HM.out HALL.out (bnext HPR.out.bel HB4.out) (Nat.lt_of_lt_of_le HL2.out HB4.out.size) (no 1) rfl _ _ _ _ _ _ _ _
  | none =>
    by_cases hf : room ≤ fl.length
    · have HSP := Lib.hid (spec_full h hg hf (a := no 7) (by unfold stepG; rw [if_neg (by omega), if_pos hk]; rfl))
      rw [HSP.out]
      have HBG : Hid (Calls Tryz.prog 107 #[dptr g, .agg #[.string ⟨x.c.fam.toArray⟩, .string ⟨x.c.cl.toArray⟩, .string ⟨#[]⟩, .slice x.p x.c.sc.length x.r, .string ⟨#[]⟩, .string ⟨#[]⟩, .string ⟨#[]⟩, .int .i64 0, .slice none 0 0, .bool false, .slice none 0 0]] w2 fun e w' => e = .returned (.tuple #[.pointer none, .int .i64 7]) ∧ Below w2.heap.size w2 w') := begun_full HM2.out ⟨0, x.c.fam, x.c.cl, [], x.l, [], [], [], 0, none, 0, [], false, none, 0, []⟩ hfl hg hf
      clear h hall hx hm hk hpr hfl hg hf
      go_enter Tryz.func91, Tryz.ntmps91
      go_wp2_with (first
      | (go_at_call 107; (with_reducible refine HBG.out.mono ?_); rintro e w3 ⟨rfl, hb3⟩; have HB3 := Lib.hid hb3; clear hb3)
      | (go_at_call 59; (with_reducible refine (HRF.out _ _).mono ?_); rintro e w4 ⟨rfl, hb4⟩; have HB4 := Lib.hid (bnext HB3.out hb4); obtain ⟨z0, z1, z2, z3, z4, z5, z6, z7, f0, f1, f2, f3, f4, f5, f6, f7⟩ := ans_cells (HPR.out.ans.below HB4.out); clear hb4)
      | fail)
      refine bodyPost_ret (results_blk Tryz.results91 _ _ (w.heap.size + 1) 59 [.int .i64 7, .int .i64 0, .int .i64 0, .slice none 0 0, .string ⟨#[]⟩, .string ⟨#[]⟩, .bool false, .bool false] _ rfl (set8_blk (HPR.out.ans.below HB4.out) (.int .i64 7) (.int .i64 0) (.int .i64 0) (.slice none 0 0) (.string ⟨#[]⟩) (.string ⟨#[]⟩) (.bool false) (.bool false)) Tryz.underlying59 rfl infoAn) rfl ?_
      exact fin_same HM.out HALL.out (bnext HPR.out.bel HB4.out) (Nat.lt_of_lt_of_le HL2.out HB4.out.size) (no 7) rfl _ _ _ _ _ _ _ _
    · have hstep : stepG false none x.c = (some (issG (newG x.c 0) x.c.sc false).1, (issG (newG x.c 0) x.c.sc false).2) := by unfold stepG; rw [if_neg (by omega), if_pos hk]; rfl
      have HSP := Lib.hid (spec_new (room := room) hg hf hstep)
      rw [HSP.out]
      have hrt : RT (issG (newG x.c 0) x.c.sc false).1 := (step_right (full := false) (o := none) hm (fun f hf => by cases hf) _ (by rw [hstep])).1
      obtain ⟨s1, s2⟩ := fit_words hm.fit
      obtain ⟨u1, u2, u3, u4⟩ := zeros_four hm.zero hk
      have hzf : DF.f ⟨0, x.c.fam, x.c.cl, [], x.l, [], [], [], 0, none, 0, [], false, none, 0, []⟩ = newG x.c 0 := by unfold newG; rw [u1, u2, u3, u4]; rfl
      have hgf : GoodF w2 ⟨0, x.c.fam, x.c.cl, [], x.l, [], [], [], 0, none, 0, [], false, none, 0, []⟩ := by
        have hx2 := hx.below hpr.bel
        exact ⟨hx2.fam, hx2.cl, Nat.zero_le _, Nat.zero_le _, Nat.zero_le _, Nat.zero_le _, hx2.sc.good (by show x.c.sc.length ≤ _; omega), (fun h => absurd h (by simp)), Nat.le_refl _, (fun _ => rfl), (by simp), (fun _ h => by cases h), (fun h => absurd h (by simp)), Nat.le_refl _, (fun _ => rfl), (by simp)⟩
      have HBG : Hid (Calls Tryz.prog 107 #[dptr g, .agg #[.string ⟨x.c.fam.toArray⟩, .string ⟨x.c.cl.toArray⟩, .string ⟨#[]⟩, .slice x.p x.c.sc.length x.r, .string ⟨#[]⟩, .string ⟨#[]⟩, .string ⟨#[]⟩, .int .i64 0, .slice none 0 0, .bool false, .slice none 0 0]] w2 fun e w' => ∃ v, e = .returned (.tuple #[v, .int .i64 0]) ∧ ∃ w1, Below w2.heap.size w2 w1 ∧ BM w1 R g m D fl room ∧ KeepA w1 w' R g m room fl (newG x.c 0) (.returned v)) := by
        have hb := begun_new HM2.out ⟨0, x.c.fam, x.c.cl, [], x.l, [], [], [], 0, none, 0, [], false, none, 0, []⟩ hgf (by rw [hzf]; exact Or.inr ⟨rfl, ⟨2, x.c.sc, false⟩, hrt⟩) hg hf
        rw [hzf] at hb
        exact hb
      have HRT := Lib.hid hrt
      have HS := Lib.hid (And.intro s1 s2)
      clear hfl hg hf hgf hrt s1 s2 hstep u1 u2 u3 u4 hzf
      clear h hall hx hm hk hpr
      go_enter Tryz.func91, Tryz.ntmps91
      go_wp2_with fail
      refine HBG.out.mono ?_
      rintro e w4 ⟨v, rfl, w3, hb3, _, y, D', hv, hyf, hyb, hyt, hyn⟩
      injection hv with hv
      subst hv
      have hyl : y.g < w4.heap.size := ((hyb.fams y ((insK_mem kid).2 (Or.inl rfl))).lt) _ (Or.inl rfl)
      have HFY := Lib.hid (hyb.fams y ((insK_mem kid).2 (Or.inl rfl)))
      have d3 : w4.cell? ⟨y.g, 3, none⟩ = some (.slice y.sc.1 y.sc.2.2.length y.sc.2.1) := HFY.out.blk.cell 3
      have hyc : y.sc.2.2 = x.c.sc := congrArg FT.sc hyf
      have hyk : y.tk.length = 0 := by
        have h := congrArg (fun f => f.tk.length) hyf
        have h2 : y.f.tk.length = y.tk.length := List.length_map ..
        rw [h2] at h
        exact h
      have HIS : Hid (Calls Tryz.prog 110 #[dptr y.g, .slice y.sc.1 y.sc.2.2.length y.sc.2.1, .bool false] w4 fun e w' => ∃ p q z, e = .returned (.agg #[.int .i64 0, .int .i64 1, .int .i64 0, .slice p y.sc.2.2.length q, .string ⟨#[]⟩, .string ⟨#[]⟩, .bool false, .bool false]) ∧ w'.ownsRow w4.heap.size 9 1 (.slice p x.c.sc.length q) x.c.sc.length (cells senc x.c.sc) ∧ IS w4 w' y z (issG (newG x.c 0) x.c.sc false).1 (fun k => (Value.slice p x.c.sc.length q).ownBlock = some k)) := by
        have hgl := own_goodR HFY.out.own.sc (by rw [hyc]; exact HS.out.1) (by rw [hyc]; have := HS.out.2; omega)
        have hz := issued_c HFY.out (by rw [hyk]; omega) (by rw [hyc]; exact HS.out.1) (by rw [hyc]; have := HS.out.2; omega) y.sc hgl false
        refine hz.mono ?_
        rintro e w' ⟨p, q, z, rfl, h1, h2⟩
        rw [hyf] at h2 ⊢
        rw [hyc] at h1 h2 ⊢
        exact ⟨p, q, z, rfl, h1, h2⟩
      have h23 := hb3.size
      have h34 := hyt.size
      have hA4 : Blk w4 (w.heap.size + 1) 59 zerA := blk_turn (HPR.out.ans.below hb3) hyt fun h => by have := HM.out.lt _ h; omega
      have HKP := Lib.hid (And.intro hb3 (And.intro hyf (And.intro hyb (And.intro hyt hyn))))
      have HA4 := Lib.hid hA4
      have HAY : Hid (w.heap.size + 1 < w3.heap.size) := Nat.lt_of_lt_of_le HL2.out h23
      obtain ⟨n, hn⟩ : ∃ n, y.sc.2.2.length = n := ⟨_, rfl⟩
      rw [hn] at d3 HIS
      have HN : Hid (x.c.sc.length = n) := by rw [← hyc]; exact hn
      clear hb3 hyf hyb hyt hyn hyc h23 h34 hA4 hn hyk
      go_wp2_with fail
      refine HIS.out.mono ?_
      rintro e w5 ⟨p, q, z, rfl, ho5, hz5⟩
      obtain ⟨q1, q2, q3, q4, q5⟩ := HKP.out
      have HI := Lib.hid hz5
      have HO5 := Lib.hid ho5
      have hA5 : Blk w5 (w.heap.size + 1) 59 zerA := blk_turn HA4.out hz5.turn fun h => by have := q5 _ h; have := HAY.out; omega
      have HA5 := Lib.hid hA5
      obtain ⟨z0, z1, z2, z3, z4, z5, z6, z7, f0, f1, f2, f3, f4, f5, f6, f7⟩ := ans_cells hA5
      clear q1 q2 q3 q4 q5 hz5 ho5 hA5
      go_wp2_with fail
      refine bodyPost_ret (results_blk Tryz.results91 _ _ (w.heap.size + 1) 59 [.int .i64 0, .int .i64 1, .int .i64 0, .slice p n q, .string ⟨#[]⟩, .string ⟨#[]⟩, .bool false, .bool false] _ rfl (set8_blk HA5.out (.int .i64 0) (.int .i64 1) (.int .i64 0) (.slice p n q) (.string ⟨#[]⟩) (.string ⟨#[]⟩) (.bool false) (.bool false)) Tryz.underlying59 rfl infoAn) rfl ?_
      obtain ⟨q1, q2, q3, q4, q5⟩ := HKP.out
      have ho5 := HO5.out
      have hlen := HN.out
      have hsz := HPR.out.bel.size
      have h5 := fin_new HALL.out (fun k hk => HM.out.lt k hk) (bnext HPR.out.bel q1) HAY.out q3 q4 q5 HI.out HRT.out (issG (newG x.c 0) x.c.sc false).2 p q (own_baseR ho5 (by have := q1.size; have := q4.size; have := HL2.out; omega)) (fun k hk => hk) (.int .i64 0) (.int .i64 1) (.int .i64 0) (.slice p n q) (.string ⟨#[]⟩) (.string ⟨#[]⟩) (.bool false) (.bool false)
      rw [show ansv (issG (newG x.c 0) x.c.sc false).2 p q = .agg #[.int .i64 0, .int .i64 1, .int .i64 0, .slice p x.c.sc.length q, .string ⟨#[]⟩, .string ⟨#[]⟩, .bool false, .bool false] from rfl, hlen] at h5
      exact h5
end Go.Proofs.YthagdkipipldlaaGreatDoor.gra
