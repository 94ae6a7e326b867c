/- The developers' authorize (written by tools/gen_grh.py). No condition beyond what slices and texts are. -/
import Derived.Test.YthagdkipipldlaaGreatDoorGrh
namespace Go.Proofs.YthagdkipipldlaaGreatDoor.gra
open Go.RowKit
open Go.Proofs.YthagdkipipldlaaGreatDoor.oct Go.Proofs.YthagdkipipldlaaGreatDoor.ref Go.Proofs.YthagdkipipldlaaGreatDoor.rows Go.Proofs.YthagdkipipldlaaGreatDoor.rowg Go.Proofs.YthagdkipipldlaaGreatDoor.mpt Go.Proofs.YthagdkipipldlaaGreatDoor.trn Go.Proofs.YthagdkipipldlaaGreatDoor.krd
open Go.Proofs.YthagdkipipldlaaGreatDoor.sha (Tabs)
open Go.Proofs.YthagdkipipldlaaGreatDoor.scp (tx senc senc_len senc_one InS ins_below ins_cell ins_one lt Lst lval lenc GoodL FitS RowA own_good infoStr clone_c key_txt skeyed withinP)

theorem insK_twice {α : Type} {key : α → T} (fl : List α) {x y : α} (h : key y = key x) : insK key (insK key fl x) y = insK key fl y := by
  have ft : ∀ (p q : α → Bool) (l : List α), (∀ x, q x = true → p x = true) → (l.filter p).filter q = l.filter q := fun p q l h => by
    rw [List.filter_filter]
    refine List.filter_congr fun x _ => ?_
    cases hq : q x
    · rfl
    · rw [h x hq]; rfl
  have fn : ∀ (p q : α → Bool) (l : List α), (∀ x, q x = true → p x = false) → (l.filter p).filter q = [] := fun p q l h => by
    rw [List.filter_filter]
    refine List.filter_eq_nil_iff.2 fun x _ => ?_
    cases hq : q x
    · simp
    · rw [h x hq]; simp
  unfold insK
  rw [h, List.filter_append, List.filter_append, dl_neg key (by rw [scp.lt_irrefl]; simp), dg_neg key (scp.lt_irrefl _),
    ft _ _ _ (fun _ h => h), fn _ _ _ (fun _ h => scp.lt_asymm h), fn _ _ _ (fun _ h => scp.lt_asymm h), ft _ _ _ (fun _ h => h), List.append_nil, List.nil_append]
theorem spec_full {R : Nat → Prop} {w : World} {g m room : Nat} {D : DataW Nat} {fl : List DF} (h : BM w R g m D fl room) {c : CT} (hg : getD fl c.fam = none) (hf : room ≤ fl.length) {a : AT} (hs : stepG true none c = (none, a)) : specG room (fl.map DF.f) c = (fl.map DF.f, a) := by
  unfold specG
  rw [get_map hg, List.length_map, decide_eq_true hf, show (none : Option DF).map DF.f = none from rfl, hs]
  dsimp only
  rw [show (none : Option FT) = getG (fl.map DF.f) c.fam from (get_map hg).symm, put_same ((f_srt fl).1 h.srt)]
theorem spec_new {room : Nat} {fl : List DF} {c : CT} (hg : getD fl c.fam = none) (hf : ¬ room ≤ fl.length) {f : FT} {a : AT} (hs : stepG false none c = (some f, a)) : specG room (fl.map DF.f) c = (insG (fl.map DF.f) f, a) := by
  unfold specG
  rw [get_map hg, List.length_map, decide_eq_false hf, show (none : Option DF).map DF.f = none from rfl, hs]
  rfl
/-- a family is new -/
theorem fin_new {w w3 w4 W : World} {R : Nat → Prop} {g m room : Nat} {D' : DataW Nat} {fl : List DF} (hall : ∀ x ∈ fl, RT x.f) (hlt : ∀ k, R k → k < w.heap.size) (hb : Below w.heap.size w w3) (hl : w.heap.size + 1 < w3.heap.size) {y z : DF} (hy : BM w4 (Rx R y) g m D' (insD fl y) room) (ht : Turn R w3 w4) (hnew : ∀ k, y.has k → w3.heap.size ≤ k) {f : FT} {E : Nat → Prop} (hi : IS w4 W y z f E) (hr : RT f) (a : AT) (p : Option Addr) (q : Nat)
    (ho : W.ownsRow (w.heap.size + 2) 9 1 (.slice p a.sc.length q) a.sc.length (cells senc a.sc)) (hE : ∀ k, (Value.slice p a.sc.length q).ownBlock = some k → E k) (v0 v1 v2 v3 v4 v5 v6 v7 : Value) :
    DoA w ((((((((W.setCell ⟨w.heap.size + 1, 0, none⟩ v0).setCell ⟨w.heap.size + 1, 1, none⟩ v1).setCell ⟨w.heap.size + 1, 2, none⟩ v2).setCell ⟨w.heap.size + 1, 3, none⟩ v3).setCell ⟨w.heap.size + 1, 4, none⟩ v4).setCell ⟨w.heap.size + 1, 5, none⟩ v5).setCell ⟨w.heap.size + 1, 6, none⟩ v6).setCell ⟨w.heap.size + 1, 7, none⟩ v7) R g room (insG (fl.map DF.f) f, a) (.returned (ansv a p q)) := by
  have h34 := ht.size
  have hym : y ∈ insD fl y := (insK_mem kid).2 (Or.inl rfl)
  obtain ⟨b1, b2⟩ := hy.changed hym z hi.id hi.g (by rw [hi.f]; exact Or.inl hr) hi.turn hi.fam
  have hz : ∀ k, z.has k → y.has k ∨ w4.heap.size ≤ k := fun k hk => (hi.fam.foot k hk).imp_right fun e => e.1
  have hbig : ∀ k, Rx (Rx R y) z k → R k ∨ w3.heap.size ≤ k := by
    rintro k ((h1 | h1) | h1)
    · exact Or.inl h1
    · exact Or.inr (hnew k h1)
    · rcases hz k h1 with h2 | h2
      · exact Or.inr (hnew k h2)
      · exact Or.inr (Nat.le_trans h34 h2)
  have t8 : Turn (fun k => k = w.heap.size + 1) W ((((((((W.setCell ⟨w.heap.size + 1, 0, none⟩ v0).setCell ⟨w.heap.size + 1, 1, none⟩ v1).setCell ⟨w.heap.size + 1, 2, none⟩ v2).setCell ⟨w.heap.size + 1, 3, none⟩ v3).setCell ⟨w.heap.size + 1, 4, none⟩ v4).setCell ⟨w.heap.size + 1, 5, none⟩ v5).setCell ⟨w.heap.size + 1, 6, none⟩ v6).setCell ⟨w.heap.size + 1, 7, none⟩ v7) := set8_turn
  have b3 := b1.turn t8 fun k hk e => by
    rcases hbig k hk with h1 | h1
    · have := hlt k h1; omega
    · omega
  refine ⟨Rx (Rx R y) z, p, q, rfl, own_baseR (own_turn ho t8 fun b hb e => by have := (ho.lt b hb).1; omega) (by omega), ?_, ⟨m, D', _, b3, ?_, ?_⟩, ?_, ?_⟩
  · intro k hk h1
    have hge := hi.ge k (hE k hk)
    rcases h1 with (h1 | h1) | h1
    · have := hlt k h1; have := hb.size; omega
    · have := (hy.lt k (Or.inr h1)); omega
    · exact hi.ex k (hE k hk) h1
  · rw [f_ins, f_ins, hi.f]
    exact insK_twice _ (show FT.id f = FT.id y.f by rw [← hi.f]; exact hi.id)
  · intro u hu
    rcases (insK_mem kid).1 hu with rfl | ⟨hu, hne⟩
    · rw [hi.f]; exact hr
    · rcases (insK_mem kid).1 hu with rfl | ⟨hu, _⟩
      · exact absurd hi.id.symm hne
      · exact hall u hu
  · have e0 : Turn (fun k => R k ∨ w.heap.size ≤ k) w w3 := Turn.of_below hb
    have e1 : Turn (fun k => R k ∨ w.heap.size ≤ k) w3 w4 := ht.mono fun k _ hk => Or.inl hk
    have e2 : Turn (fun k => R k ∨ w.heap.size ≤ k) w4 W := hi.turn.mono fun k _ hk => Or.inr (by have := hnew k hk; omega)
    have e3 : Turn (fun k => R k ∨ w.heap.size ≤ k) W ((((((((W.setCell ⟨w.heap.size + 1, 0, none⟩ v0).setCell ⟨w.heap.size + 1, 1, none⟩ v1).setCell ⟨w.heap.size + 1, 2, none⟩ v2).setCell ⟨w.heap.size + 1, 3, none⟩ v3).setCell ⟨w.heap.size + 1, 4, none⟩ v4).setCell ⟨w.heap.size + 1, 5, none⟩ v5).setCell ⟨w.heap.size + 1, 6, none⟩ v6).setCell ⟨w.heap.size + 1, 7, none⟩ v7) := t8.mono fun k _ hk => Or.inr (by omega)
    exact ((e0.next e1).next (e2.next e3)).mono fun k hk h1 => h1.elim id fun h2 => by omega
  · intro k hk
    rcases hbig k hk with h1 | h1
    · exact Or.inl h1
    · exact Or.inr (by omega)
set_option maxRecDepth 100000 in
set_option maxHeartbeats 16000000 in
theorem authorize_c {w : World} {R : Nat → Prop} {g m room : Nat} {D : DataW Nat} {fl : List DF} (h : BM w R g m D fl room) (hall : ∀ x ∈ fl, RT x.f) (x : CM) (hx : GoodC w x) (hm : MayT x.c) (hk : x.c.kind = 1) :
    Calls Tryz.prog 88 #[dptr g, cval x] w fun e w' => DoA w w' R g room (specG room (fl.map DF.f) x.c) e := by
  have hpr := PR.mk2 w x #[.int .i64 x.c.kind, .string ⟨x.c.fam.toArray⟩, .int .i64 x.c.ser, .int .i64 x.c.tok, .string ⟨x.c.cl.toArray⟩, .string ⟨x.c.us.toArray⟩, .slice x.p x.c.sc.length x.r, .string ⟨x.c.re.toArray⟩, .string ⟨x.c.ch.toArray⟩, .string ⟨x.c.me.toArray⟩, .string ⟨x.c.ve.toArray⟩, .bool x.c.rf, .int .i64 x.c.edge] #[.int .i64 0, .int .i64 0, .int .i64 0, .slice none 0 0, .string ⟨#[]⟩, .string ⟨#[]⟩, .bool false, .bool false] rfl rfl
  obtain ⟨w2, hw2⟩ : ∃ w2, (w.alloc (.cells #[.int .i64 x.c.kind, .string ⟨x.c.fam.toArray⟩, .int .i64 x.c.ser, .int .i64 x.c.tok, .string ⟨x.c.cl.toArray⟩, .string ⟨x.c.us.toArray⟩, .slice x.p x.c.sc.length x.r, .string ⟨x.c.re.toArray⟩, .string ⟨x.c.ch.toArray⟩, .string ⟨x.c.me.toArray⟩, .string ⟨x.c.ve.toArray⟩, .bool x.c.rf, .int .i64 x.c.edge] 48)).alloc (.cells #[.int .i64 0, .int .i64 0, .int .i64 0, .slice none 0 0, .string ⟨#[]⟩, .string ⟨#[]⟩, .bool false, .bool false] 59) = w2 := ⟨_, rfl⟩
  rw [hw2] at hpr
  have HPR := Lib.hid hpr
  have HM := Lib.hid h
  have HALL := Lib.hid hall
  have HM2 := Lib.hid (h.below hpr.bel)
  have HXX := Lib.hid hx
  have HMM := Lib.hid hm
  have HKK := Lib.hid hk
  have HRF : Hid (∀ (k : Int) W, Calls Tryz.prog 59 #[.int .i64 k] W fun e w' => e = .returned (.agg #[.int .i64 k, .int .i64 0, .int .i64 0, .slice none 0 0, .string ⟨#[]⟩, .string ⟨#[]⟩, .bool false, .bool false]) ∧ Below W.heap.size W w') := Lib.hid fun k W => refusal_c k W
  have HL2 : Hid (w.heap.size + 1 < w2.heap.size) := hpr.ans.lt
  have HB0 : Hid (Below w2.heap.size w2 w2) := Lib.hid (Below.refl _ _)
  obtain ⟨k0, k1, k2, k3, k4, k5, k6, k7, k8, k9, k10, k11, k12⟩ := hpr.cells (Below.refl _ _)
  obtain ⟨z0, z1, z2, z3, z4, z5, z6, z7, f0, f1, f2, f3, f4, f5, f6, f7⟩ := ans_cells hpr.ans
  show Calls _ _ #[dptr g, .agg #[.int .i64 x.c.kind, .string ⟨x.c.fam.toArray⟩, .int .i64 x.c.ser, .int .i64 x.c.tok, .string ⟨x.c.cl.toArray⟩, .string ⟨x.c.us.toArray⟩, .slice x.p x.c.sc.length x.r, .string ⟨x.c.re.toArray⟩, .string ⟨x.c.ch.toArray⟩, .string ⟨x.c.me.toArray⟩, .string ⟨x.c.ve.toArray⟩, .bool x.c.rf, .int .i64 x.c.edge]] w _
  have hfl : x.c.fam.length ≤ 140737488351232 := hx.fam
  cases hg : getD fl x.c.fam with
  | some o =>
    have HSP := Lib.hid (spec_same (room := room) h hg (a := no 1) fun b => by unfold stepG; rw [if_pos hk]; rfl)
    rw [HSP.out]
    have HBG : Hid (Calls Tryz.prog 107 #[dptr g, .agg #[.string ⟨x.c.fam.toArray⟩, .string ⟨x.c.cl.toArray⟩, .string ⟨x.c.us.toArray⟩, .slice x.p x.c.sc.length x.r, .string ⟨x.c.re.toArray⟩, .string ⟨x.c.ch.toArray⟩, .string ⟨x.c.me.toArray⟩, .int .i64 1, .slice none 0 0, .bool false, .slice none 0 0]] w2 fun e w' => e = .returned (.tuple #[.pointer none, .int .i64 1]) ∧ Below w2.heap.size w2 w') := begun_there HM2.out ⟨0, x.c.fam, x.c.cl, x.c.us, x.l, x.c.re, x.c.ch, x.c.me, 1, none, 0, [], false, none, 0, []⟩ hfl o hg
    clear h hall hx hm hk hpr hfl hg
    go_enter Tryz.func88, Tryz.ntmps88
    go_wp2_with (first
      | (go_at_call 107; (with_reducible refine HBG.out.mono ?_); rintro e w3 ⟨rfl, hb3⟩; have HB3 := Lib.hid hb3; clear hb3)
      | (go_at_call 59; (with_reducible refine (HRF.out _ _).mono ?_); rintro e w4 ⟨rfl, hb4⟩; have HB4 := Lib.hid (bnext HB3.out hb4); obtain ⟨z0, z1, z2, z3, z4, z5, z6, z7, f0, f1, f2, f3, f4, f5, f6, f7⟩ := ans_cells (HPR.out.ans.below HB4.out); clear hb4)
      | fail)
    refine bodyPost_ret (results_blk Tryz.results88 _ _ (w.heap.size + 1) 59 [.int .i64 1, .int .i64 0, .int .i64 0, .slice none 0 0, .string ⟨#[]⟩, .string ⟨#[]⟩, .bool false, .bool false] _ rfl (set8_blk (HPR.out.ans.below HB4.out) (.int .i64 1) (.int .i64 0) (.int .i64 0) (.slice none 0 0) (.string ⟨#[]⟩) (.string ⟨#[]⟩) (.bool false) (.bool false)) Tryz.underlying59 rfl infoAn) rfl ?_
    exact fin_same HM.out HALL.out (bnext HPR.out.bel HB4.out) (Nat.lt_of_lt_of_le HL2.out HB4.out.size) (no 1) rfl _ _ _ _ _ _ _ _
  | none =>
    by_cases hf : room ≤ fl.length
    · have HSP := Lib.hid (spec_full h hg hf (a := no 7) (by unfold stepG; rw [if_pos hk]; rfl))
      rw [HSP.out]
      have HBG : Hid (Calls Tryz.prog 107 #[dptr g, .agg #[.string ⟨x.c.fam.toArray⟩, .string ⟨x.c.cl.toArray⟩, .string ⟨x.c.us.toArray⟩, .slice x.p x.c.sc.length x.r, .string ⟨x.c.re.toArray⟩, .string ⟨x.c.ch.toArray⟩, .string ⟨x.c.me.toArray⟩, .int .i64 1, .slice none 0 0, .bool false, .slice none 0 0]] w2 fun e w' => e = .returned (.tuple #[.pointer none, .int .i64 7]) ∧ Below w2.heap.size w2 w') := begun_full HM2.out ⟨0, x.c.fam, x.c.cl, x.c.us, x.l, x.c.re, x.c.ch, x.c.me, 1, none, 0, [], false, none, 0, []⟩ hfl hg hf
      clear h hall hx hm hk hpr hfl hg hf
      go_enter Tryz.func88, Tryz.ntmps88
      go_wp2_with (first
      | (go_at_call 107; (with_reducible refine HBG.out.mono ?_); rintro e w3 ⟨rfl, hb3⟩; have HB3 := Lib.hid hb3; clear hb3)
      | (go_at_call 59; (with_reducible refine (HRF.out _ _).mono ?_); rintro e w4 ⟨rfl, hb4⟩; have HB4 := Lib.hid (bnext HB3.out hb4); obtain ⟨z0, z1, z2, z3, z4, z5, z6, z7, f0, f1, f2, f3, f4, f5, f6, f7⟩ := ans_cells (HPR.out.ans.below HB4.out); clear hb4)
      | fail)
      refine bodyPost_ret (results_blk Tryz.results88 _ _ (w.heap.size + 1) 59 [.int .i64 7, .int .i64 0, .int .i64 0, .slice none 0 0, .string ⟨#[]⟩, .string ⟨#[]⟩, .bool false, .bool false] _ rfl (set8_blk (HPR.out.ans.below HB4.out) (.int .i64 7) (.int .i64 0) (.int .i64 0) (.slice none 0 0) (.string ⟨#[]⟩) (.string ⟨#[]⟩) (.bool false) (.bool false)) Tryz.underlying59 rfl infoAn) rfl ?_
      exact fin_same HM.out HALL.out (bnext HPR.out.bel HB4.out) (Nat.lt_of_lt_of_le HL2.out HB4.out.size) (no 7) rfl _ _ _ _ _ _ _ _
    · have HSP := Lib.hid (spec_new (room := room) hg hf (f := newG x.c 1) (a := { no 0 with sc := x.c.sc }) (by unfold stepG; rw [if_pos hk]; rfl))
      rw [HSP.out]
      have hrt : RT (newG x.c 1) := (step_right (full := false) (o := none) hm (fun f hf => by cases hf) (newG x.c 1) (by rw [show stepG false none x.c = (some (newG x.c 1), { no 0 with sc := x.c.sc }) from (by unfold stepG; rw [if_pos hk]; rfl)])).1
      obtain ⟨s1, s2⟩ := fit_words hm.fit
      have hgf : GoodF w2 ⟨0, x.c.fam, x.c.cl, x.c.us, x.l, x.c.re, x.c.ch, x.c.me, 1, none, 0, [], false, none, 0, []⟩ := by
        have hx2 := hx.below hpr.bel
        exact ⟨hx2.fam, hx2.cl, hx2.us, hx2.re, hx2.ch, hx2.me, hx2.sc.good (by show x.c.sc.length ≤ _; omega), (fun h => absurd h (by simp)), Nat.le_refl _, (fun _ => rfl), (by simp), (fun _ h => by cases h), (fun h => absurd h (by simp)), Nat.le_refl _, (fun _ => rfl), (by simp)⟩
      have HBG : Hid (Calls Tryz.prog 107 #[dptr g, .agg #[.string ⟨x.c.fam.toArray⟩, .string ⟨x.c.cl.toArray⟩, .string ⟨x.c.us.toArray⟩, .slice x.p x.c.sc.length x.r, .string ⟨x.c.re.toArray⟩, .string ⟨x.c.ch.toArray⟩, .string ⟨x.c.me.toArray⟩, .int .i64 1, .slice none 0 0, .bool false, .slice none 0 0]] w2 fun e w' => ∃ v, e = .returned (.tuple #[v, .int .i64 0]) ∧ ∃ w1, Below w2.heap.size w2 w1 ∧ BM w1 R g m D fl room ∧ KeepA w1 w' R g m room fl (newG x.c 1) (.returned v)) := begun_new HM2.out ⟨0, x.c.fam, x.c.cl, x.c.us, x.l, x.c.re, x.c.ch, x.c.me, 1, none, 0, [], false, none, 0, []⟩ hgf (Or.inl hrt) hg hf
      have HRT := Lib.hid hrt
      have HS := Lib.hid (And.intro s1 s2)
      clear h hall hx hm hk hpr hfl hg hf hgf hrt s1 s2
      go_enter Tryz.func88, Tryz.ntmps88
      go_wp2_with fail
      refine HBG.out.mono ?_
      rintro e w4 ⟨v, rfl, w3, hb3, _, y, D', hv, hyf, hyb, hyt, hyn⟩
      injection hv with hv
      subst hv
      have hyl : y.g < w4.heap.size := ((hyb.fams y ((insK_mem kid).2 (Or.inl rfl))).lt) _ (Or.inl rfl)
      have HFY := Lib.hid (hyb.fams y ((insK_mem kid).2 (Or.inl rfl)))
      have d3 : w4.cell? ⟨y.g, 3, none⟩ = some (.slice y.sc.1 y.sc.2.2.length y.sc.2.1) := HFY.out.blk.cell 3
      have hyc : y.sc.2.2 = x.c.sc := congrArg FT.sc hyf
      have HCL : Hid (Calls Tryz.prog 71 #[.slice y.sc.1 y.sc.2.2.length y.sc.2.1] w4 fun e w' => ∃ p c, e = .returned (.slice p y.sc.2.2.length c) ∧ w'.ownsRow w4.heap.size 9 1 (.slice p y.sc.2.2.length c) y.sc.2.2.length (cells senc y.sc.2.2) ∧ GoodL w' (p, c, y.sc.2.2) ∧ Below w4.heap.size w4 w') := by
        have hgl := own_goodR HFY.out.own.sc (by rw [hyc]; exact HS.out.1) (by rw [hyc]; have := HS.out.2; omega)
        exact cloned_c y.sc w4 (LL.of_good hgl) hgl.few
      have h23 := hb3.size
      have h34 := hyt.size
      have hA4 : Blk w4 (w.heap.size + 1) 59 zerA := blk_turn (HPR.out.ans.below hb3) hyt fun h => by have := HM.out.lt _ h; omega
      have HYC := Lib.hid hyc
      have HKP := Lib.hid (And.intro hb3 (And.intro hyf (And.intro hyb (And.intro hyt hyn))))
      have HA4 := Lib.hid hA4
      obtain ⟨n, hn⟩ : ∃ n, y.sc.2.2.length = n := ⟨_, rfl⟩
      rw [hn] at d3 HCL
      have HN := Lib.hid hn
      clear hb3 hyf hyb hyt hyn hyc h23 h34 hA4 hn
      go_wp2_with (go_at_call 71; (with_reducible refine HCL.out.mono ?_); rintro e w5 ⟨p, q, rfl, ho5, _, hb5⟩; have HB5 := Lib.hid hb5; have HO5 := Lib.hid ho5; obtain ⟨z0, z1, z2, z3, z4, z5, z6, z7, f0, f1, f2, f3, f4, f5, f6, f7⟩ := ans_cells (HA4.out.below hb5); clear hb5 ho5)
      refine bodyPost_ret (results_blk Tryz.results88 _ _ (w.heap.size + 1) 59 [.int .i64 0, .int .i64 0, .int .i64 0, .slice p n q, .string ⟨#[]⟩, .string ⟨#[]⟩, .bool false, .bool false] _ rfl (set8_blk (HA4.out.below HB5.out) (.int .i64 0) (.int .i64 0) (.int .i64 0) (.slice p n q) (.string ⟨#[]⟩) (.string ⟨#[]⟩) (.bool false) (.bool false)) Tryz.underlying59 rfl infoAn) rfl ?_
      obtain ⟨q1, q2, q3, q4, q5⟩ := HKP.out
      have hi := (IS.start HFY.out HB5.out)
      rw [q2] at hi
      have hlen : x.c.sc.length = n := by rw [← HYC.out]; exact HN.out
      have ho5 := HO5.out
      rw [HYC.out] at ho5
      have hsz := HPR.out.bel.size
      have h5 := fin_new HALL.out (fun k hk => HM.out.lt k hk) (bnext HPR.out.bel q1) (Nat.lt_of_lt_of_le HL2.out q1.size) q3 q4 q5 hi HRT.out { no 0 with sc := x.c.sc } p q (by rw [show ({ no 0 with sc := x.c.sc } : AT).sc = x.c.sc from rfl, hlen]; exact own_baseR ho5 (by have := q1.size; have := q4.size; have := HL2.out; omega)) (fun k hk => by rw [show ({ no 0 with sc := x.c.sc } : AT).sc = x.c.sc from rfl, hlen] at hk; exact ho5.lt k hk) (.int .i64 0) (.int .i64 0) (.int .i64 0) (.slice p n q) (.string ⟨#[]⟩) (.string ⟨#[]⟩) (.bool false) (.bool false)
      unfold ansv at h5
      rw [show ({ no 0 with sc := x.c.sc } : AT).sc.length = n from hlen] at h5
      exact h5
end Go.Proofs.YthagdkipipldlaaGreatDoor.gra
