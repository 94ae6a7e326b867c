/- The developers' revoke and done (written by tools/gen_grh.py). No condition beyond what slices and texts are. -/
import Derived.Test.YthagdkipipldlaaGreatDoorGrk
namespace Go.Proofs.YthagdkipipldlaaGreatDoor.gra
open Go.RowKit
open Go.Proofs.YthagdkipipldlaaGreatDoor.oct Go.Proofs.YthagdkipipldlaaGreatDoor.ref Go.Proofs.YthagdkipipldlaaGreatDoor.rows Go.Proofs.YthagdkipipldlaaGreatDoor.rowg Go.Proofs.YthagdkipipldlaaGreatDoor.mpt Go.Proofs.YthagdkipipldlaaGreatDoor.trn Go.Proofs.YthagdkipipldlaaGreatDoor.krd
open Go.Proofs.YthagdkipipldlaaGreatDoor.sha (Tabs)
open Go.Proofs.YthagdkipipldlaaGreatDoor.scp (tx senc senc_len senc_one InS ins_below ins_cell ins_one lt Lst lval lenc GoodL FitS RowA own_good infoStr clone_c key_txt skeyed withinP)

set_option maxRecDepth 100000 in
set_option maxHeartbeats 16000000 in
theorem revoke_c {w : World} {R : Nat → Prop} {g m room : Nat} {D : DataW Nat} {fl : List DF} (h : BM w R g m D fl room) (hall : ∀ x ∈ fl, RT x.f) (x : CM) (hx : GoodC w x) (hm : MayT x.c) (hk : x.c.kind = 5) :
    Calls Tryz.prog 92 #[dptr g, cval x] w fun e w' => DoA w w' R g room (specG room (fl.map DF.f) x.c) e := by
  have hpr := PR.mk2 w x #[.int .i64 x.c.kind, .string ⟨x.c.fam.toArray⟩, .int .i64 x.c.ser, .int .i64 x.c.tok, .string ⟨x.c.cl.toArray⟩, .string ⟨x.c.us.toArray⟩, .slice x.p x.c.sc.length x.r, .string ⟨x.c.re.toArray⟩, .string ⟨x.c.ch.toArray⟩, .string ⟨x.c.me.toArray⟩, .string ⟨x.c.ve.toArray⟩, .bool x.c.rf, .int .i64 x.c.edge] #[.int .i64 0, .int .i64 0, .int .i64 0, .slice none 0 0, .string ⟨#[]⟩, .string ⟨#[]⟩, .bool false, .bool false] rfl rfl
  obtain ⟨w2, hw2⟩ : ∃ w2, (w.alloc (.cells #[.int .i64 x.c.kind, .string ⟨x.c.fam.toArray⟩, .int .i64 x.c.ser, .int .i64 x.c.tok, .string ⟨x.c.cl.toArray⟩, .string ⟨x.c.us.toArray⟩, .slice x.p x.c.sc.length x.r, .string ⟨x.c.re.toArray⟩, .string ⟨x.c.ch.toArray⟩, .string ⟨x.c.me.toArray⟩, .string ⟨x.c.ve.toArray⟩, .bool x.c.rf, .int .i64 x.c.edge] 48)).alloc (.cells #[.int .i64 0, .int .i64 0, .int .i64 0, .slice none 0 0, .string ⟨#[]⟩, .string ⟨#[]⟩, .bool false, .bool false] 59) = w2 := ⟨_, rfl⟩
  rw [hw2] at hpr
  have HPR := Lib.hid hpr
  have HM := Lib.hid h
  have HALL := Lib.hid hall
  have HM2 := Lib.hid (h.below hpr.bel)
  have HXX := Lib.hid hx
  have HMM := Lib.hid hm
  have HKK := Lib.hid hk
  have HRF : Hid (∀ (k : Int) W, Calls Tryz.prog 59 #[.int .i64 k] W fun e w' => e = .returned (.agg #[.int .i64 k, .int .i64 0, .int .i64 0, .slice none 0 0, .string ⟨#[]⟩, .string ⟨#[]⟩, .bool false, .bool false]) ∧ Below W.heap.size W w') := Lib.hid fun k W => refusal_c k W
  have HL2 : Hid (w.heap.size + 1 < w2.heap.size) := hpr.ans.lt
  have HB0 : Hid (Below w2.heap.size w2 w2) := Lib.hid (Below.refl _ _)
  obtain ⟨k0, k1, k2, k3, k4, k5, k6, k7, k8, k9, k10, k11, k12⟩ := hpr.cells (Below.refl _ _)
  obtain ⟨z0, z1, z2, z3, z4, z5, z6, z7, f0, f1, f2, f3, f4, f5, f6, f7⟩ := ans_cells hpr.ans
  show Calls _ _ #[dptr g, .agg #[.int .i64 x.c.kind, .string ⟨x.c.fam.toArray⟩, .int .i64 x.c.ser, .int .i64 x.c.tok, .string ⟨x.c.cl.toArray⟩, .string ⟨x.c.us.toArray⟩, .slice x.p x.c.sc.length x.r, .string ⟨x.c.re.toArray⟩, .string ⟨x.c.ch.toArray⟩, .string ⟨x.c.me.toArray⟩, .string ⟨x.c.ve.toArray⟩, .bool x.c.rf, .int .i64 x.c.edge]] w _
  have hfl : x.c.fam.length ≤ 140737488351232 := hx.fam
  have HOF := Lib.hid (of_c HM2.out x.c.fam hfl)
  cases hg : getD fl x.c.fam with
  | none =>
    rw [hg] at HOF
    have HSP := Lib.hid (spec_same (room := room) h hg (a := no 0) fun b => by unfold stepG; rw [if_neg (by omega), if_neg (by omega), if_neg (by omega), if_neg (by omega), if_pos hk]; rfl)
    rw [HSP.out]
    unfold optr at HOF
    dsimp only at HOF
    clear h hall hx hm hk hpr hfl hg
    go_enter Tryz.func92, Tryz.ntmps92
    go_wp2_with (first
      | (go_at_call 42; (with_reducible refine HOF.out.mono ?_); rintro e w3 ⟨rfl, hw3⟩; obtain rfl : w2 = w3 := hw3.symm)
      | fail)
    go_quiet (fail)
    have HB4 := Lib.hid (below_drewN (Below.refl w2.heap.size w2) nq)
    obtain ⟨z0, z1, z2, z3, z4, z5, z6, z7, f0, f1, f2, f3, f4, f5, f6, f7⟩ := ans_cells (HPR.out.ans.below HB4.out)
    go_wp2_with fail
    refine bodyPost_ret (results_blk Tryz.results92 _ _ (w.heap.size + 1) 59 [.int .i64 0, .int .i64 0, .int .i64 0, .slice none 0 0, .string ⟨#[]⟩, .string ⟨#[]⟩, .bool false, .bool false] _ rfl (set8_blk (HPR.out.ans.below HB4.out) (.int .i64 0) (.int .i64 0) (.int .i64 0) (.slice none 0 0) (.string ⟨#[]⟩) (.string ⟨#[]⟩) (.bool false) (.bool false)) Tryz.underlying59 rfl infoAn) rfl ?_
    exact fin_same HM.out HALL.out (bnext HPR.out.bel HB4.out) (Nat.lt_of_lt_of_le HL2.out HB4.out.size) (no 0) rfl _ _ _ _ _ _ _ _
  | some o =>
    rw [hg] at HOF
    obtain ⟨hom, hoi⟩ := getD_in hg
    have HFO := Lib.hid (HM2.out.fams o hom)
    have HOM := Lib.hid (And.intro hom hoi)
    have HRO := Lib.hid (hall o hom)
    obtain ⟨d0, d1, d2, d3, d4, d5, d6, d7, d8, d9, d10⟩ := cellsF HFO.out.blk
    unfold optr at HOF
    dsimp only at HOF
    unfold tx at d0 d1 d2 d4 d5 d6
    unfold lval at d3
    unfold DF.tv at d8
    unfold DF.lv at d10
    have hgw : o.g < w.heap.size := (HM.out.fams o hom).blk.lt
    by_cases h1 : ¬ o.cl = x.c.cl
    · have y1 : (o.cl == x.c.cl) = false := by rw [beq_eq_false_iff_ne]; exact h1
      have HSP := Lib.hid (spec_same (room := room) h hg (a := no 0) fun b => by unfold stepG; rw [if_neg (by omega), if_neg (by omega), if_neg (by omega), if_neg (by omega), if_pos hk]; show (if o.f.cl ≠ x.c.cl then _ else _) = _; rw [if_pos (show o.f.cl ≠ x.c.cl from h1)]; rfl)
      rw [HSP.out]
      clear h hall hx hm hk hpr hfl hg hom hoi h1
      go_enter Tryz.func92, Tryz.ntmps92
      go_wp2_with (first
        | (go_at_call 42; (with_reducible refine HOF.out.mono ?_); rintro e w3 ⟨rfl, hw3⟩; obtain rfl : w2 = w3 := hw3.symm)
        | fail)
      go_quiet (fail)
      have HB4 := Lib.hid (below_drewN (Below.refl w2.heap.size w2) nq)
      obtain ⟨z0, z1, z2, z3, z4, z5, z6, z7, f0, f1, f2, f3, f4, f5, f6, f7⟩ := ans_cells (HPR.out.ans.below HB4.out)
      go_wp2_with fail
      refine bodyPost_ret (results_blk Tryz.results92 _ _ (w.heap.size + 1) 59 [.int .i64 0, .int .i64 0, .int .i64 0, .slice none 0 0, .string ⟨#[]⟩, .string ⟨#[]⟩, .bool false, .bool false] _ rfl (set8_blk (HPR.out.ans.below HB4.out) (.int .i64 0) (.int .i64 0) (.int .i64 0) (.slice none 0 0) (.string ⟨#[]⟩) (.string ⟨#[]⟩) (.bool false) (.bool false)) Tryz.underlying59 rfl infoAn) rfl ?_
      exact fin_same HM.out HALL.out (bnext HPR.out.bel HB4.out) (Nat.lt_of_lt_of_le HL2.out HB4.out.size) (no 0) rfl _ _ _ _ _ _ _ _
    replace h1 : o.cl = x.c.cl := Decidable.not_not.1 h1
    have y1 : (o.cl == x.c.cl) = true := by rw [beq_iff_eq]; exact h1
    have hn1 : ¬ o.f.cl ≠ x.c.cl := fun e => e h1
    have HHAS : Hid (∀ W, Below w2.heap.size w2 W → Calls Tryz.prog 112 #[dptr o.g, .int .i64 x.c.tok, .int .i64 x.c.ser] W fun e w' => e = .returned (.bool (isG o.f x.c.tok x.c.ser)) ∧ w' = W) := by
      intro W hW
      have hfew := HRO.out.few
      have h3k : o.f.tk.length = o.tk.length := List.length_map ..
      exact has_c (⟨HFO.out.blk.below hW, HFO.out.own.below hW, HFO.out.foot⟩ : FamM W R o) (by omega) _ _
    cases hh : isG o.f x.c.tok x.c.ser with
    | false =>
      rw [hh] at HHAS
      have HSP := Lib.hid (spec_same (room := room) h hg (a := { no 0 with wait := o.rev }) fun b => by unfold stepG; rw [if_neg (by omega), if_neg (by omega), if_neg (by omega), if_neg (by omega), if_pos hk]; show (if o.f.cl ≠ x.c.cl then _ else if isG o.f x.c.tok x.c.ser = true then _ else _) = _; rw [if_neg hn1, hh]; rfl)
      rw [HSP.out]
      clear h hall hx hm hk hpr hfl hg hom hoi h1 hn1 hh
      go_enter Tryz.func92, Tryz.ntmps92
      go_wp2_with (first
        | (go_at_call 42; (with_reducible refine HOF.out.mono ?_); rintro e w3 ⟨rfl, hw3⟩; obtain rfl : w2 = w3 := hw3.symm)
        | fail)
      go_quiet (fail)
      have HB4 := Lib.hid (below_drewN (Below.refl w2.heap.size w2) nq)
      obtain ⟨z0, z1, z2, z3, z4, z5, z6, z7, f0, f1, f2, f3, f4, f5, f6, f7⟩ := ans_cells (HPR.out.ans.below HB4.out)
      go_wp2_with (first
        | (go_at_call 112; (with_reducible refine (HHAS.out _ HB4.out).mono ?_); rintro e w3 ⟨rfl, hw3⟩; subst hw3)
        | fail)
      refine bodyPost_ret (results_blk Tryz.results92 _ _ (w.heap.size + 1) 59 [.int .i64 0, .int .i64 0, .int .i64 0, .slice none 0 0, .string ⟨#[]⟩, .string ⟨#[]⟩, .bool false, .bool o.rev] _ rfl (set8_blk (HPR.out.ans.below HB4.out) (.int .i64 0) (.int .i64 0) (.int .i64 0) (.slice none 0 0) (.string ⟨#[]⟩) (.string ⟨#[]⟩) (.bool false) (.bool o.rev)) Tryz.underlying59 rfl infoAn) rfl ?_
      exact fin_same HM.out HALL.out (bnext HPR.out.bel HB4.out) (Nat.lt_of_lt_of_le HL2.out HB4.out.size) { no 0 with wait := o.rev } rfl _ _ _ _ _ _ _ _
    | true =>
      rw [hh] at HHAS
      have HSP := Lib.hid (spec_fam (room := room) hg (f := fallG o.f) (a := { no 0 with wait := true }) fun b => by unfold stepG; rw [if_neg (by omega), if_neg (by omega), if_neg (by omega), if_neg (by omega), if_pos hk]; show (if o.f.cl ≠ x.c.cl then _ else if isG o.f x.c.tok x.c.ser = true then _ else _) = _; rw [if_neg hn1, hh]; rfl)
      rw [HSP.out]
      have HFL : Hid (∀ W, Below w2.heap.size w2 W → ∃ y, IS w (W.setCell ⟨o.g, 9, none⟩ (.bool true)) o y (fallG o.f) (fun k => w.heap.size ≤ k ∧ k < w2.heap.size)) := fun W hW => fall_is HM.out HOM.out.1 HPR.out.bel hW
      clear h hall hx hm hk hpr hfl hg hom hoi h1 hn1 hh
      go_enter Tryz.func92, Tryz.ntmps92
      go_wp2_with (first
        | (go_at_call 42; (with_reducible refine HOF.out.mono ?_); rintro e w3 ⟨rfl, hw3⟩; obtain rfl : w2 = w3 := hw3.symm)
        | fail)
      go_quiet (fail)
      have HBQ := Lib.hid (below_drewN (Below.refl w2.heap.size w2) nq)
      have f9 := ((HFO.out.blk).below HBQ.out).frozen 9
      go_upto_region 6 with (first
        | (go_at_call 112; (with_reducible refine (HHAS.out _ HBQ.out).mono ?_); rintro e w3 ⟨rfl, hw3⟩; subst hw3)
        | fail)
      obtain ⟨y, hy⟩ := HFL.out _ HBQ.out
      have HY := Lib.hid hy
      have hA := blk_turn (HPR.out.ans.below HBQ.out) (Turn.set (S := fun k => k = o.g) _ o.g 9 (.bool true) rfl) (by omega)
      have e9 : ((w2.drewN nq).setCell ⟨o.g, 9, none⟩ (.bool true)).cell? ⟨o.g, 9, none⟩ = some (.bool true) := (((HFO.out.blk).below HBQ.out).set 9 (.bool true)).cell 9
      obtain ⟨w5, hw5⟩ : ∃ w5, (w2.drewN nq).setCell ⟨o.g, 9, none⟩ (.bool true) = w5 := ⟨_, rfl⟩
      rw [hw5] at HY hA e9 ⊢
      have HA := Lib.hid hA
      obtain ⟨z0, z1, z2, z3, z4, z5, z6, z7, f0, f1, f2, f3, f4, f5, f6, f7⟩ := ans_cells hA
      clear hy hA hw5 f9
      go_wp2_with fail
      refine bodyPost_ret (results_blk Tryz.results92 _ _ (w.heap.size + 1) 59 [.int .i64 0, .int .i64 0, .int .i64 0, .slice none 0 0, .string ⟨#[]⟩, .string ⟨#[]⟩, .bool false, .bool true] _ rfl (set8_blk HA.out (.int .i64 0) (.int .i64 0) (.int .i64 0) (.slice none 0 0) (.string ⟨#[]⟩) (.string ⟨#[]⟩) (.bool false) (.bool true)) Tryz.underlying59 rfl infoAn) rfl ?_
      exact fin_fam HM.out HALL.out HOM.out.1 HY.out ⟨Nat.le_succ _, HL2.out⟩ (fall_rt HRO.out) rfl { no 0 with wait := true } none 0 (World.ownsRow_nil _ _ _ _) (fun k hk => by cases hk) _ _ _ _ _ _ _ _
theorem spec_gone {room : Nat} {fl : List DF} {c : CT} {x : DF} (hg : getD fl c.fam = some x) {a : AT} (hs : ∀ b, stepG b (some x.f) c = (none, a)) : specG room (fl.map DF.f) c = (delG (fl.map DF.f) c.fam, a) := by
  unfold specG
  rw [get_map hg, show (some x).map DF.f = some x.f from rfl, hs]
  rfl
/-- a family is gone -/
theorem fin_gone {w W W2 : World} {R : Nat → Prop} {g m room j : Nat} {D : DataW Nat} {fl : List DF} (h : BM w R g m D fl room) (hall : ∀ x ∈ fl, RT x.f) (hb : Below w.heap.size w W) (n : T)
    (hm : W2.ownsMap Tryz.prog 9 ptrElem m j (D.del (.string n))) (hg : W.grownBy W2 (some m)) (a : AT) (hs : a.sc = []) (v0 v1 v2 v3 v4 v5 v6 v7 : Value) :
    DoA w ((((((((W2.setCell ⟨w.heap.size + 1, 0, none⟩ v0).setCell ⟨w.heap.size + 1, 1, none⟩ v1).setCell ⟨w.heap.size + 1, 2, none⟩ v2).setCell ⟨w.heap.size + 1, 3, none⟩ v3).setCell ⟨w.heap.size + 1, 4, none⟩ v4).setCell ⟨w.heap.size + 1, 5, none⟩ v5).setCell ⟨w.heap.size + 1, 6, none⟩ v6).setCell ⟨w.heap.size + 1, 7, none⟩ v7) R g room (delG (fl.map DF.f) n, a) (.returned (ansv a none 0)) := by
  obtain ⟨b1, b2⟩ := (h.below hb).gone n hm hg
  have t8 : Turn (fun k => k = w.heap.size + 1) W2 ((((((((W2.setCell ⟨w.heap.size + 1, 0, none⟩ v0).setCell ⟨w.heap.size + 1, 1, none⟩ v1).setCell ⟨w.heap.size + 1, 2, none⟩ v2).setCell ⟨w.heap.size + 1, 3, none⟩ v3).setCell ⟨w.heap.size + 1, 4, none⟩ v4).setCell ⟨w.heap.size + 1, 5, none⟩ v5).setCell ⟨w.heap.size + 1, 6, none⟩ v6).setCell ⟨w.heap.size + 1, 7, none⟩ v7) := set8_turn
  have hsz := hg.size
  refine ⟨R, none, 0, rfl, ?_, (fun k hk => by cases hk), ⟨m, _, delD fl n, b1.turn t8 (fun k hk e => by have := h.lt k hk; omega), f_del fl n, fun x hx => hall x ((delK_mem kid).1 hx).1⟩, ?_, Grown.refl R w⟩
  · dsimp only
    rw [hs]
    exact World.ownsRow_nil _ _ _ _
  · have e0 : Turn (fun k => R k ∨ w.heap.size ≤ k) w W := Turn.of_below hb
    have e1 : Turn (fun k => R k ∨ w.heap.size ≤ k) W W2 := b2.mono fun k _ hk => Or.inl hk
    have e3 : Turn (fun k => R k ∨ w.heap.size ≤ k) W2 ((((((((W2.setCell ⟨w.heap.size + 1, 0, none⟩ v0).setCell ⟨w.heap.size + 1, 1, none⟩ v1).setCell ⟨w.heap.size + 1, 2, none⟩ v2).setCell ⟨w.heap.size + 1, 3, none⟩ v3).setCell ⟨w.heap.size + 1, 4, none⟩ v4).setCell ⟨w.heap.size + 1, 5, none⟩ v5).setCell ⟨w.heap.size + 1, 6, none⟩ v6).setCell ⟨w.heap.size + 1, 7, none⟩ v7) := t8.mono fun k _ hk => Or.inr (by omega)
    exact ((e0.next e1).next e3).mono fun k hk h1 => h1.elim id fun h2 => by omega
set_option maxRecDepth 100000 in
set_option maxHeartbeats 16000000 in
theorem done_c {w : World} {R : Nat → Prop} {g m room : Nat} {D : DataW Nat} {fl : List DF} (h : BM w R g m D fl room) (hall : ∀ x ∈ fl, RT x.f) (x : CM) (hx : GoodC w x) (hm : MayT x.c) (hk : x.c.kind = 7) :
    Calls Tryz.prog 94 #[dptr g, cval x] w fun e w' => DoA w w' R g room (specG room (fl.map DF.f) x.c) e := by
  have hpr := PR.mk2 w x #[.int .i64 x.c.kind, .string ⟨x.c.fam.toArray⟩, .int .i64 x.c.ser, .int .i64 x.c.tok, .string ⟨x.c.cl.toArray⟩, .string ⟨x.c.us.toArray⟩, .slice x.p x.c.sc.length x.r, .string ⟨x.c.re.toArray⟩, .string ⟨x.c.ch.toArray⟩, .string ⟨x.c.me.toArray⟩, .string ⟨x.c.ve.toArray⟩, .bool x.c.rf, .int .i64 x.c.edge] #[.int .i64 0, .int .i64 0, .int .i64 0, .slice none 0 0, .string ⟨#[]⟩, .string ⟨#[]⟩, .bool false, .bool false] rfl rfl
  obtain ⟨w2, hw2⟩ : ∃ w2, (w.alloc (.cells #[.int .i64 x.c.kind, .string ⟨x.c.fam.toArray⟩, .int .i64 x.c.ser, .int .i64 x.c.tok, .string ⟨x.c.cl.toArray⟩, .string ⟨x.c.us.toArray⟩, .slice x.p x.c.sc.length x.r, .string ⟨x.c.re.toArray⟩, .string ⟨x.c.ch.toArray⟩, .string ⟨x.c.me.toArray⟩, .string ⟨x.c.ve.toArray⟩, .bool x.c.rf, .int .i64 x.c.edge] 48)).alloc (.cells #[.int .i64 0, .int .i64 0, .int .i64 0, .slice none 0 0, .string ⟨#[]⟩, .string ⟨#[]⟩, .bool false, .bool false] 59) = w2 := ⟨_, rfl⟩
  rw [hw2] at hpr
  have HPR := Lib.hid hpr
  have HM := Lib.hid h
  have HALL := Lib.hid hall
  have HM2 := Lib.hid (h.below hpr.bel)
  have HXX := Lib.hid hx
  have HMM := Lib.hid hm
  have HKK := Lib.hid hk
  have HRF : Hid (∀ (k : Int) W, Calls Tryz.prog 59 #[.int .i64 k] W fun e w' => e = .returned (.agg #[.int .i64 k, .int .i64 0, .int .i64 0, .slice none 0 0, .string ⟨#[]⟩, .string ⟨#[]⟩, .bool false, .bool false]) ∧ Below W.heap.size W w') := Lib.hid fun k W => refusal_c k W
  have HL2 : Hid (w.heap.size + 1 < w2.heap.size) := hpr.ans.lt
  have HB0 : Hid (Below w2.heap.size w2 w2) := Lib.hid (Below.refl _ _)
  obtain ⟨k0, k1, k2, k3, k4, k5, k6, k7, k8, k9, k10, k11, k12⟩ := hpr.cells (Below.refl _ _)
  obtain ⟨z0, z1, z2, z3, z4, z5, z6, z7, f0, f1, f2, f3, f4, f5, f6, f7⟩ := ans_cells hpr.ans
  show Calls _ _ #[dptr g, .agg #[.int .i64 x.c.kind, .string ⟨x.c.fam.toArray⟩, .int .i64 x.c.ser, .int .i64 x.c.tok, .string ⟨x.c.cl.toArray⟩, .string ⟨x.c.us.toArray⟩, .slice x.p x.c.sc.length x.r, .string ⟨x.c.re.toArray⟩, .string ⟨x.c.ch.toArray⟩, .string ⟨x.c.me.toArray⟩, .string ⟨x.c.ve.toArray⟩, .bool x.c.rf, .int .i64 x.c.edge]] w _
  have hfl : x.c.fam.length ≤ 140737488351232 := hx.fam
  have HOF := Lib.hid (of_c HM2.out x.c.fam hfl)
  cases hg : getD fl x.c.fam with
  | none =>
    rw [hg] at HOF
    have HSP := Lib.hid (spec_same (room := room) h hg (a := no 0) fun b => by unfold stepG; rw [if_neg (by omega), if_neg (by omega), if_neg (by omega), if_neg (by omega), if_neg (by omega), if_neg (by omega)]; rfl)
    rw [HSP.out]
    unfold optr at HOF
    dsimp only at HOF
    clear h hall hx hm hk hpr hfl hg
    go_enter Tryz.func94, Tryz.ntmps94
    go_wp2_with (first
      | (go_at_call 42; (with_reducible refine HOF.out.mono ?_); rintro e w3 ⟨rfl, hw3⟩; obtain rfl : w2 = w3 := hw3.symm)
      | fail)
    have HB4 := HB0
    refine bodyPost_ret (results_blk Tryz.results94 _ _ (w.heap.size + 1) 59 [.int .i64 0, .int .i64 0, .int .i64 0, .slice none 0 0, .string ⟨#[]⟩, .string ⟨#[]⟩, .bool false, .bool false] _ rfl (set8_blk (HPR.out.ans.below HB4.out) (.int .i64 0) (.int .i64 0) (.int .i64 0) (.slice none 0 0) (.string ⟨#[]⟩) (.string ⟨#[]⟩) (.bool false) (.bool false)) Tryz.underlying59 rfl infoAn) rfl ?_
    exact fin_same HM.out HALL.out (bnext HPR.out.bel HB4.out) (Nat.lt_of_lt_of_le HL2.out HB4.out.size) (no 0) rfl _ _ _ _ _ _ _ _
  | some o =>
    rw [hg] at HOF
    obtain ⟨hom, hoi⟩ := getD_in hg
    have HFO := Lib.hid (HM2.out.fams o hom)
    have HOM := Lib.hid (And.intro hom hoi)
    have HRO := Lib.hid (hall o hom)
    obtain ⟨d0, d1, d2, d3, d4, d5, d6, d7, d8, d9, d10⟩ := cellsF HFO.out.blk
    unfold optr at HOF
    dsimp only at HOF
    unfold tx at d0 d1 d2 d4 d5 d6
    unfold lval at d3
    unfold DF.tv at d8
    unfold DF.lv at d10
    have hgw : o.g < w.heap.size := (HM.out.fams o hom).blk.lt
    cases hr : o.rev with
    | false =>
      rw [hr] at d9
      have HSP := Lib.hid (spec_same (room := room) h hg (a := no 0) fun b => by unfold stepG; rw [if_neg (by omega), if_neg (by omega), if_neg (by omega), if_neg (by omega), if_neg (by omega), if_neg (by omega)]; show (if o.f.rev = true then _ else _) = _; rw [show o.f.rev = false from hr]; rfl)
      rw [HSP.out]
      clear h hall hx hm hk hpr hfl hg hom hoi hr
      go_enter Tryz.func94, Tryz.ntmps94
      go_wp2_with (first
        | (go_at_call 42; (with_reducible refine HOF.out.mono ?_); rintro e w3 ⟨rfl, hw3⟩; obtain rfl : w2 = w3 := hw3.symm)
        | fail)
      have HB4 := HB0
      refine bodyPost_ret (results_blk Tryz.results94 _ _ (w.heap.size + 1) 59 [.int .i64 0, .int .i64 0, .int .i64 0, .slice none 0 0, .string ⟨#[]⟩, .string ⟨#[]⟩, .bool false, .bool false] _ rfl (set8_blk (HPR.out.ans.below HB4.out) (.int .i64 0) (.int .i64 0) (.int .i64 0) (.slice none 0 0) (.string ⟨#[]⟩) (.string ⟨#[]⟩) (.bool false) (.bool false)) Tryz.underlying59 rfl infoAn) rfl ?_
      exact fin_same HM.out HALL.out (bnext HPR.out.bel HB4.out) (Nat.lt_of_lt_of_le HL2.out HB4.out.size) (no 0) rfl _ _ _ _ _ _ _ _
    | true =>
      rw [hr] at d9
      have HSP := Lib.hid (spec_gone (room := room) hg (a := no 0) fun b => by unfold stepG; rw [if_neg (by omega), if_neg (by omega), if_neg (by omega), if_neg (by omega), if_neg (by omega), if_neg (by omega)]; show (if o.f.rev = true then _ else _) = _; rw [show o.f.rev = true from hr]; rfl)
      rw [HSP.out]
      have HOMP := Lib.hid (HM2.out.below (Below.refl w2.heap.size w2).drew).map
      have HK := Lib.hid (key_txt x.c.fam hfl)
      have m1 : w2.cell? ⟨g, 1, none⟩ = some (.map (some m)) := HM2.out.blk.cell 1
      clear h hall hx hm hk hpr hfl hg hom hoi hr
      go_enter Tryz.func94, Tryz.ntmps94
      go_wp2_with (first
        | (go_at_call 42; (with_reducible refine HOF.out.mono ?_); rintro e w3 ⟨rfl, hw3⟩; obtain rfl : w2 = w3 := hw3.symm)
        | fail)
      go_still_tail 6, (by kernel_rfl)
      change wpList _ _ _ _ _ w2.drew
      go_wp2_with (at_delete; (refine wpList_delete_own _ rfl _ _ 77 9 rfl 83 skeyed Tryz.underlying77 _ m _ D rfl HOMP.out _ _ rfl HK.out ?_; intro w4 how hmt; have HGO := Lib.hid (And.intro how hmt); have HA4 := Lib.hid (blk_turn (HPR.out.ans.below (Below.refl w2.heap.size w2).drew) (Turn.map (S := fun k => k = m) hmt rfl) (fun e => by have := HM.out.lt m HM.out.mmem; omega)); obtain ⟨z0, z1, z2, z3, z4, z5, z6, z7, f0, f1, f2, f3, f4, f5, f6, f7⟩ := ans_cells HA4.out; clear how hmt))
      refine bodyPost_ret (results_blk Tryz.results94 _ _ (w.heap.size + 1) 59 [.int .i64 0, .int .i64 0, .int .i64 0, .slice none 0 0, .string ⟨#[]⟩, .string ⟨#[]⟩, .bool false, .bool false] _ rfl (set8_blk HA4.out (.int .i64 0) (.int .i64 0) (.int .i64 0) (.slice none 0 0) (.string ⟨#[]⟩) (.string ⟨#[]⟩) (.bool false) (.bool false)) Tryz.underlying59 rfl infoAn) rfl ?_
      exact fin_gone HM.out HALL.out (bnext HPR.out.bel (Below.refl w2.heap.size w2).drew) x.c.fam HGO.out.1 HGO.out.2.grown (no 0) rfl _ _ _ _ _ _ _ _
end Go.Proofs.YthagdkipipldlaaGreatDoor.gra
