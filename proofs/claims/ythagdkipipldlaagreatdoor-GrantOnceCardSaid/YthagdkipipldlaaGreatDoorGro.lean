/- The developers' refresh (written by tools/gen_grh.py). No condition beyond what slices and texts are. -/
import Derived.Test.YthagdkipipldlaaGreatDoorGrl
namespace Go.Proofs.YthagdkipipldlaaGreatDoor.gra
open Go.RowKit
open Go.Proofs.YthagdkipipldlaaGreatDoor.oct Go.Proofs.YthagdkipipldlaaGreatDoor.ref Go.Proofs.YthagdkipipldlaaGreatDoor.rows Go.Proofs.YthagdkipipldlaaGreatDoor.rowg Go.Proofs.YthagdkipipldlaaGreatDoor.mpt Go.Proofs.YthagdkipipldlaaGreatDoor.trn Go.Proofs.YthagdkipipldlaaGreatDoor.krd
open Go.Proofs.YthagdkipipldlaaGreatDoor.sha (Tabs)
open Go.Proofs.YthagdkipipldlaaGreatDoor.scp (tx senc senc_len senc_one InS ins_below ins_cell ins_one lt Lst lval lenc GoodL FitS RowA own_good infoStr clone_c key_txt skeyed withinP)

/-- a token is used -/
theorem FamM.use {w w1 : World} {R : Nat → Prop} {x : DF} (h : FamM w R x) (hb : Below w.heap.size w w1) {i b : Nat} {t : IM} (ht : x.tk[i]? = some t) (hp : x.tp = some ⟨b, 0, none⟩) :
    w1.frozen? ⟨b, i * 3 + 2, none⟩ = false ∧ x.has b ∧ IS w (w1.setCell ⟨b, i * 3 + 2, none⟩ (.bool true)) x { x with tk := x.tk.set i { t with used := true } } (useG x.f i) (fun k => w.heap.size ≤ k ∧ k < w1.heap.size) := by
  have hi := (List.getElem?_eq_some_iff.1 ht).1
  have hti := (List.getElem?_eq_some_iff.1 ht).2
  have hx1 := h.own.below hb
  have hB1 := h.blk.below hb
  have htk := hx1.tk
  unfold DF.tv at htk
  rw [hp] at htk
  have hset := own_setG ienc_len htk i 2 hi (by decide) { t with used := true } (.bool true) (by rw [hti]; rfl)
  have hT : Turn (fun k => k = b) w1 (w1.setCell ⟨b, i * 3 + 2, none⟩ (.bool true)) := Turn.set _ _ _ _ rfl
  have hxb : x.has b := Or.inr (Or.inr (Or.inl (by unfold DF.tv; rw [hp]; rfl)))
  have keep : ∀ {B e z n : Nat} {u : Value} {xs : List Value}, w1.ownsRow B e z u n xs → e ≠ 50 → (w1.setCell ⟨b, i * 3 + 2, none⟩ (.bool true)).ownsRow B e z u n xs := fun {B e z n u xs} hr h1 => own_turn hr hT fun b2 hb2 e2 => h1 (by subst e2; exact row_row hr htk hb2 rfl)
  have hlen : (x.tk.set i { t with used := true }).length = x.tk.length := List.length_set
  have hrow : ∀ k, DF.row { x with tk := x.tk.set i { t with used := true } } k → x.row k := by
    rintro k (e | e | ⟨u, hu, e⟩ | e)
    · exact Or.inl e
    · refine Or.inr (Or.inl ?_)
      unfold DF.tv at e ⊢
      dsimp only at e
      rw [hlen] at e
      exact e
    · refine Or.inr (Or.inr (Or.inl ?_))
      rcases List.mem_or_eq_of_mem_set hu with hu | rfl
      · exact ⟨u, hu, e⟩
      · exact ⟨t, List.mem_of_getElem? ht, e⟩
    · exact Or.inr (Or.inr (Or.inr e))
  refine ⟨(own_frozen htk (i * 3 + 2) (by omega)).1, hxb, ⟨rfl, rfl, ?_, ⟨?_, ⟨keep hx1.sc (by decide), ?_, ?_, keep hx1.le (by decide)⟩, ?_⟩, ?_, ?_, ?_, ?_⟩⟩
  · unfold DF.f useG
    simp only [FT.mk.injEq, true_and, and_true]
    rw [List.map_set]
    refine List.ext_getElem? fun j => ?_
    rw [List.getElem?_modify, List.getElem?_set, List.getElem?_map]
    by_cases hij : i = j
    · subst hij
      rw [if_pos rfl, List.length_map, if_pos hi, ht]
      simp [IM.t]
    · rw [if_neg hij]
      cases x.tk[j]? <;> simp [hij]
  · have hB2 : Blk (w1.setCell ⟨b, i * 3 + 2, none⟩ (.bool true)) x.g 82 (fenc x) := blk_turn hB1 hT fun e => hx1.noBlk (Or.inr (Or.inl (by unfold DF.tv; rw [hp, e]; rfl))) hB1 (Or.inl rfl)
    unfold fenc DF.tv at hB2 ⊢
    dsimp only
    rw [hlen]
    exact hB2
  · unfold DF.tv
    dsimp only
    rw [hlen, hp]
    exact hset
  · intro u hu
    rcases List.mem_or_eq_of_mem_set hu with hu | rfl
    · exact keep (hx1.ts u hu) (by decide)
    · exact keep (hx1.ts t (List.mem_of_getElem? ht)) (by decide)
  · rintro k (rfl | hk)
    · exact Or.inl (Or.inl rfl)
    · exact Or.inl (Or.inr (hrow k hk))
  · exact (Turn.of_below hb).next (hT.mono fun k _ e => by rw [e]; exact hxb)
  · rintro k hk (rfl | h3)
    · exact absurd h.blk.lt (Nat.not_lt.2 hk.1)
    · have := h.lt k (Or.inr (hrow k h3)); omega
  · intro k hk; simpa using hk.2
  · exact fun k hk => hk.1
set_option maxRecDepth 100000 in
set_option maxHeartbeats 16000000 in
theorem refresh_c {w : World} {R : Nat → Prop} {g m room : Nat} {D : DataW Nat} {fl : List DF} (h : BM w R g m D fl room) (hall : ∀ x ∈ fl, RT x.f) (x : CM) (hx : GoodC w x) (hm : MayT x.c) (hk : x.c.kind = 3) (hsep : ∀ b o z, x.c.sc ≠ [] → x.p = some ⟨b, o, z⟩ → b < w.heap.size → ¬ R b) :
    Calls Tryz.prog 90 #[dptr g, cval x] w fun e w' => DoA w w' R g room (specG room (fl.map DF.f) x.c) e := by
  have hpr := PR.mk2 w x #[.int .i64 x.c.kind, .string ⟨x.c.fam.toArray⟩, .int .i64 x.c.ser, .int .i64 x.c.tok, .string ⟨x.c.cl.toArray⟩, .string ⟨x.c.us.toArray⟩, .slice x.p x.c.sc.length x.r, .string ⟨x.c.re.toArray⟩, .string ⟨x.c.ch.toArray⟩, .string ⟨x.c.me.toArray⟩, .string ⟨x.c.ve.toArray⟩, .bool x.c.rf, .int .i64 x.c.edge] #[.int .i64 0, .int .i64 0, .int .i64 0, .slice none 0 0, .string ⟨#[]⟩, .string ⟨#[]⟩, .bool false, .bool false] rfl rfl
  obtain ⟨w2, hw2⟩ : ∃ w2, (w.alloc (.cells #[.int .i64 x.c.kind, .string ⟨x.c.fam.toArray⟩, .int .i64 x.c.ser, .int .i64 x.c.tok, .string ⟨x.c.cl.toArray⟩, .string ⟨x.c.us.toArray⟩, .slice x.p x.c.sc.length x.r, .string ⟨x.c.re.toArray⟩, .string ⟨x.c.ch.toArray⟩, .string ⟨x.c.me.toArray⟩, .string ⟨x.c.ve.toArray⟩, .bool x.c.rf, .int .i64 x.c.edge] 48)).alloc (.cells #[.int .i64 0, .int .i64 0, .int .i64 0, .slice none 0 0, .string ⟨#[]⟩, .string ⟨#[]⟩, .bool false, .bool false] 59) = w2 := ⟨_, rfl⟩
  rw [hw2] at hpr
  have HPR := Lib.hid hpr
  have HM := Lib.hid h
  have HALL := Lib.hid hall
  have HM2 := Lib.hid (h.below hpr.bel)
  have HXX := Lib.hid hx
  have HMM := Lib.hid hm
  have HKK := Lib.hid hk
  have HRF : Hid (∀ (k : Int) W, Calls Tryz.prog 59 #[.int .i64 k] W fun e w' => e = .returned (.agg #[.int .i64 k, .int .i64 0, .int .i64 0, .slice none 0 0, .string ⟨#[]⟩, .string ⟨#[]⟩, .bool false, .bool false]) ∧ Below W.heap.size W w') := Lib.hid fun k W => refusal_c k W
  have HL2 : Hid (w.heap.size + 1 < w2.heap.size) := hpr.ans.lt
  have HB0 : Hid (Below w2.heap.size w2 w2) := Lib.hid (Below.refl _ _)
  obtain ⟨k0, k1, k2, k3, k4, k5, k6, k7, k8, k9, k10, k11, k12⟩ := hpr.cells (Below.refl _ _)
  obtain ⟨z0, z1, z2, z3, z4, z5, z6, z7, f0, f1, f2, f3, f4, f5, f6, f7⟩ := ans_cells hpr.ans
  have HSEP := Lib.hid hsep
  show Calls _ _ #[dptr g, .agg #[.int .i64 x.c.kind, .string ⟨x.c.fam.toArray⟩, .int .i64 x.c.ser, .int .i64 x.c.tok, .string ⟨x.c.cl.toArray⟩, .string ⟨x.c.us.toArray⟩, .slice x.p x.c.sc.length x.r, .string ⟨x.c.re.toArray⟩, .string ⟨x.c.ch.toArray⟩, .string ⟨x.c.me.toArray⟩, .string ⟨x.c.ve.toArray⟩, .bool x.c.rf, .int .i64 x.c.edge]] w _
  have hfl : x.c.fam.length ≤ 140737488351232 := hx.fam
  have HLV := Lib.hid (living_c HM2.out x.c.fam hfl)
  cases hlv : liveD fl x.c.fam with
  | none =>
    rw [hlv] at HLV
    have HSP : Hid (specG room (fl.map DF.f) x.c = (fl.map DF.f, no 3)) := by
      cases hg : getD fl x.c.fam with
      | none => exact spec_same h hg fun b => by unfold stepG; rw [if_neg (by omega), if_neg (by omega), if_neg (by omega), if_pos hk]; rfl
      | some o =>
        have hrv : o.rev = true := by
          unfold liveD at hlv
          rw [hg] at hlv
          dsimp only at hlv
          cases ho : o.rev with
          | true => rfl
          | false => rw [ho] at hlv; simp at hlv
        exact spec_same h hg fun b => by unfold stepG; rw [if_neg (by omega), if_neg (by omega), if_neg (by omega), if_pos hk]; show (if o.f.rev = true ∨ _ then _ else _) = _; rw [if_pos (Or.inl (show o.f.rev = true from hrv))]; rfl
    rw [HSP.out]
    unfold optr at HLV
    dsimp only at HLV
    clear h hall hx hm hk hpr hsep hfl hlv
    go_enter Tryz.func90, Tryz.ntmps90
    have HB3 : Hid (∀ nq, Below w2.heap.size w2 (w2.drewN nq)) := fun nq => below_drewN (Below.refl _ _) nq
    go_wp2_with (first
      | (go_at_call 108; (with_reducible refine HLV.out.mono ?_); rintro e w3 ⟨rfl, hw3⟩; obtain rfl : w2 = w3 := hw3.symm)
      | fail)
    go_quiet (fail)
    go_wp2_with (first
      | (go_at_call 59; (with_reducible refine (HRF.out _ _).mono ?_); rintro e w4 ⟨rfl, hb4⟩; have HB4 := Lib.hid (bnext (HB3.out nq) hb4); obtain ⟨z0, z1, z2, z3, z4, z5, z6, z7, f0, f1, f2, f3, f4, f5, f6, f7⟩ := ans_cells (HPR.out.ans.below HB4.out); clear hb4)
      | fail)
    refine bodyPost_ret (results_blk Tryz.results90 _ _ (w.heap.size + 1) 59 [.int .i64 3, .int .i64 0, .int .i64 0, .slice none 0 0, .string ⟨#[]⟩, .string ⟨#[]⟩, .bool false, .bool false] _ rfl (set8_blk (HPR.out.ans.below HB4.out) (.int .i64 3) (.int .i64 0) (.int .i64 0) (.slice none 0 0) (.string ⟨#[]⟩) (.string ⟨#[]⟩) (.bool false) (.bool false)) Tryz.underlying59 rfl infoAn) rfl ?_
    exact fin_same HM.out HALL.out (bnext HPR.out.bel HB4.out) (Nat.lt_of_lt_of_le HL2.out HB4.out.size) (no 3) rfl _ _ _ _ _ _ _ _
  | some o =>
    rw [hlv] at HLV
    have hgo : getD fl x.c.fam = some o ∧ o.rev = false := by
      unfold liveD at hlv
      cases hg : getD fl x.c.fam with
      | none => rw [hg] at hlv; cases hlv
      | some u =>
        rw [hg] at hlv
        dsimp only at hlv
        cases hu : u.rev with
        | true => rw [hu] at hlv; simp at hlv
        | false =>
          rw [hu] at hlv
          simp at hlv
          subst hlv
          exact ⟨rfl, hu⟩
    obtain ⟨hg, hrv⟩ := hgo
    obtain ⟨hom, hoi⟩ := getD_in hg
    have HFO := Lib.hid (HM2.out.fams o hom)
    have HOM := Lib.hid (And.intro hom hoi)
    have HRO := Lib.hid (hall o hom)
    obtain ⟨d0, d1, d2, d3, d4, d5, d6, d7, d8, d9, d10⟩ := cellsF HFO.out.blk
    unfold optr at HLV
    dsimp only at HLV
    have hrf : o.f.rev = false := hrv
    unfold tx at d0 d1 d2 d4 d5 d6
    unfold lval at d3
    unfold DF.tv at d8
    unfold DF.lv at d10
    have hgw : o.g < w.heap.size := (HM.out.fams o hom).blk.lt
    by_cases h1 : ¬ o.cl = x.c.cl
    · have y1 : (o.cl == x.c.cl) = false := by rw [beq_eq_false_iff_ne]; exact h1
      have HSP := Lib.hid (spec_same (room := room) h hg (a := no 3) fun b => by unfold stepG; rw [if_neg (by omega), if_neg (by omega), if_neg (by omega), if_pos hk]; show (if o.f.rev = true ∨ o.f.cl ≠ x.c.cl then _ else _) = _; rw [if_pos (Or.inr (show o.f.cl ≠ x.c.cl from h1))]; rfl)
      rw [HSP.out]
      clear h hall hx hm hk hpr hsep hfl hg hrv hom hoi hlv hrf h1
      go_enter Tryz.func90, Tryz.ntmps90
      have HB3 : Hid (∀ nq, Below w2.heap.size w2 (w2.drewN nq)) := fun nq => below_drewN (Below.refl _ _) nq
      go_wp2_with (first
        | (go_at_call 108; (with_reducible refine HLV.out.mono ?_); rintro e w3 ⟨rfl, hw3⟩; obtain rfl : w2 = w3 := hw3.symm)
        | fail)
      go_quiet (fail)
      go_wp2_with (first
        | (go_at_call 59; (with_reducible refine (HRF.out _ _).mono ?_); rintro e w4 ⟨rfl, hb4⟩; have HB4 := Lib.hid (bnext (HB3.out nq) hb4); obtain ⟨z0, z1, z2, z3, z4, z5, z6, z7, f0, f1, f2, f3, f4, f5, f6, f7⟩ := ans_cells (HPR.out.ans.below HB4.out); clear hb4)
        | fail)
      refine bodyPost_ret (results_blk Tryz.results90 _ _ (w.heap.size + 1) 59 [.int .i64 3, .int .i64 0, .int .i64 0, .slice none 0 0, .string ⟨#[]⟩, .string ⟨#[]⟩, .bool false, .bool false] _ rfl (set8_blk (HPR.out.ans.below HB4.out) (.int .i64 3) (.int .i64 0) (.int .i64 0) (.slice none 0 0) (.string ⟨#[]⟩) (.string ⟨#[]⟩) (.bool false) (.bool false)) Tryz.underlying59 rfl infoAn) rfl ?_
      exact fin_same HM.out HALL.out (bnext HPR.out.bel HB4.out) (Nat.lt_of_lt_of_le HL2.out HB4.out.size) (no 3) rfl _ _ _ _ _ _ _ _
    replace h1 : o.cl = x.c.cl := Decidable.not_not.1 h1
    have y1 : (o.cl == x.c.cl) = true := by rw [beq_iff_eq]; exact h1
    have hno : ¬ (o.f.rev = true ∨ o.f.cl ≠ x.c.cl) := by
      rintro (e | e)
      · rw [hrf] at e; cases e
      · exact e h1
    have hfew : o.tk.length ≤ 8 := by
      have h := HRO.out.few
      have h2 : o.f.tk.length = o.tk.length := List.length_map ..
      omega
    have HTK : Hid (∀ W, Below w2.heap.size w2 W → Calls Tryz.prog 111 #[dptr o.g, .int .i64 3, .int .i64 x.c.ser] W fun e w' => TokA o 3 x.c.ser e ∧ w' = W) := fun W hW => token_c (⟨HFO.out.blk.below hW, HFO.out.own.below hW, HFO.out.foot⟩ : FamM W R o) (by omega) 3 x.c.ser
    cases htk : tokG o.f 3 x.c.ser with
    | none =>
      have HSP := Lib.hid (spec_same (room := room) h hg (a := no 3) fun b => by unfold stepG; rw [if_neg (by omega), if_neg (by omega), if_neg (by omega), if_pos hk]; show (if o.f.rev = true ∨ o.f.cl ≠ x.c.cl then _ else match tokG o.f 3 x.c.ser with | none => _ | some t => _) = _; rw [if_neg hno, htk]; rfl)
      rw [HSP.out]
      have HT0 : Hid (∀ W, Below w2.heap.size w2 W → Calls Tryz.prog 111 #[dptr o.g, .int .i64 3, .int .i64 x.c.ser] W fun e w' => e = .returned (.pointer none) ∧ w' = W) := fun W hW => (HTK.out W hW).mono fun e w' ⟨h1, h2⟩ => by
        rcases h1 with ⟨_, h1⟩ | ⟨_, _, _, _, _, _, _, h3, _⟩
        · exact ⟨h1, h2⟩
        · rw [htk] at h3; cases h3
      clear h hall hx hm hk hpr hsep hfl hg hrv hom hoi hlv hrf h1 hno htk HTK
      go_enter Tryz.func90, Tryz.ntmps90
      go_wp2_with (first
        | (go_at_call 108; (with_reducible refine HLV.out.mono ?_); rintro e w3 ⟨rfl, hw3⟩; obtain rfl : w2 = w3 := hw3.symm)
        | fail)
      go_quiet (fail)
      have HBQ := Lib.hid (below_drewN (Below.refl w2.heap.size w2) nq)
      go_wp2_with (first
        | (go_at_call 111; (with_reducible refine (HT0.out _ HBQ.out).mono ?_); rintro e w3 ⟨rfl, hw3⟩; subst hw3)
        | (go_at_call 59; (with_reducible refine (HRF.out _ _).mono ?_); rintro e w4 ⟨rfl, hb4⟩; have HB4 := Lib.hid (bnext HBQ.out hb4); obtain ⟨z0, z1, z2, z3, z4, z5, z6, z7, f0, f1, f2, f3, f4, f5, f6, f7⟩ := ans_cells (HPR.out.ans.below HB4.out); clear hb4)
        | fail)
      refine bodyPost_ret (results_blk Tryz.results90 _ _ (w.heap.size + 1) 59 [.int .i64 3, .int .i64 0, .int .i64 0, .slice none 0 0, .string ⟨#[]⟩, .string ⟨#[]⟩, .bool false, .bool false] _ rfl (set8_blk (HPR.out.ans.below HB4.out) (.int .i64 3) (.int .i64 0) (.int .i64 0) (.slice none 0 0) (.string ⟨#[]⟩) (.string ⟨#[]⟩) (.bool false) (.bool false)) Tryz.underlying59 rfl infoAn) rfl ?_
      exact fin_same HM.out HALL.out (bnext HPR.out.bel HB4.out) (Nat.lt_of_lt_of_le HL2.out HB4.out.size) (no 3) rfl _ _ _ _ _ _ _ _
    | some it =>
      obtain ⟨i, b, t, hx1, hx2, hx3, hx4, hx5⟩ : ∃ (i b : Nat) (t : IM), o.tk[i]? = some t ∧ x.c.ser = (i : Int) + 1 ∧ o.tp = some ⟨b, 0, none⟩ ∧ t.k = 3 ∧ it = t.t := by
        obtain ⟨t1, t2, t3, t4⟩ := tokG_some htk
        have h2 : o.f.tk.length = o.tk.length := List.length_map ..
        have hi : (x.c.ser - 1).toNat < o.tk.length := by omega
        obtain ⟨b, hb, _⟩ := own_at ienc_len (by decide) HFO.out.own.tk hi
        have h3 : (o.tk.map IM.t)[(x.c.ser - 1).toNat]? = some it := t3
        rw [List.getElem?_map, List.getElem?_eq_getElem hi] at h3
        injection h3 with h3
        exact ⟨(x.c.ser - 1).toNat, b, o.tk[(x.c.ser - 1).toNat], List.getElem?_eq_getElem hi, by omega, hb, by rw [← h3] at t4; exact t4, h3.symm⟩
      have HT0 : Hid (∀ W, Below w2.heap.size w2 W → Calls Tryz.prog 111 #[dptr o.g, .int .i64 3, .int .i64 x.c.ser] W fun e w' => e = .returned (.pointer (some ⟨b, i * 3, none⟩)) ∧ w' = W) := fun W hW => (HTK.out W hW).mono fun e w' ⟨h1, h2⟩ => by
        rcases h1 with ⟨h1, _⟩ | ⟨i2, b2, _, _, h3, h4, _, _, h5⟩
        · rw [htk] at h1; cases h1
        · rw [hx3] at h4
          injection h4 with h4
          injection h4 with h4
          obtain rfl : i2 = i := by omega
          subst h4
          exact ⟨h5, h2⟩
      have hi := (List.getElem?_eq_some_iff.1 hx1).1
      have hti := (List.getElem?_eq_some_iff.1 hx1).2
      obtain ⟨b2, hb2, _, hat, _⟩ := own_at ienc_len (by decide) HFO.out.own.tk hi
      rw [hx3] at hb2
      injection hb2 with hb2
      injection hb2 with hb2
      subst hb2
      rw [hti] at hat
      have q2 : w2.cell? ⟨b, i * 3 + 2, none⟩ = some (.bool t.used) := hat 2 (by decide)
      cases hu : t.used with
      | true =>
        rw [hu] at q2
        have HSP := Lib.hid (spec_fam (room := room) hg (f := fallG o.f) (a := no 3) fun b => by unfold stepG; rw [if_neg (by omega), if_neg (by omega), if_neg (by omega), if_pos hk]; show (if o.f.rev = true ∨ o.f.cl ≠ x.c.cl then _ else match tokG o.f 3 x.c.ser with | none => _ | some t => _) = _; rw [if_neg hno, htk]; show (if it.used = true then _ else _) = _; rw [hx5, if_pos (show t.t.used = true from hu)])
        rw [HSP.out]
        have HFL : Hid (∀ W, Below w2.heap.size w2 W → ∃ y, IS w (W.setCell ⟨o.g, 9, none⟩ (.bool true)) o y (fallG o.f) (fun k => w.heap.size ≤ k ∧ k < w2.heap.size)) := fun W hW => fall_is HM.out HOM.out.1 HPR.out.bel hW
        clear h hall hx hm hk hpr hsep hfl hg hrv hom hoi hlv hrf h1 hno htk HTK hx1 hx2 hx3 hx4 hx5 hi hti hat hu
        go_enter Tryz.func90, Tryz.ntmps90
        go_wp2_with (first
          | (go_at_call 108; (with_reducible refine HLV.out.mono ?_); rintro e w3 ⟨rfl, hw3⟩; obtain rfl : w2 = w3 := hw3.symm)
          | fail)
        go_quiet (fail)
        have HBQ := Lib.hid (below_drewN (Below.refl w2.heap.size w2) nq)
        have f9 := ((HFO.out.blk).below HBQ.out).frozen 9
        go_upto_region 9 with (first
          | (go_at_call 111; (with_reducible refine (HT0.out _ HBQ.out).mono ?_); rintro e w3 ⟨rfl, hw3⟩; subst hw3)
          | fail)
        obtain ⟨y, hy⟩ := HFL.out _ HBQ.out
        have HY := Lib.hid hy
        have hA := blk_turn (HPR.out.ans.below HBQ.out) (Turn.set (S := fun k => k = o.g) _ o.g 9 (.bool true) rfl) (by omega)
        obtain ⟨w5, hw5⟩ : ∃ w5, (w2.drewN nq).setCell ⟨o.g, 9, none⟩ (.bool true) = w5 := ⟨_, rfl⟩
        rw [hw5] at HY hA ⊢
        have HA := Lib.hid hA
        clear hy hA hw5 f9
        go_wp2_with (first
          | (go_at_call 59; (with_reducible refine (HRF.out _ _).mono ?_); rintro e w4 ⟨rfl, hb4⟩; have HB4 := Lib.hid hb4; obtain ⟨z0, z1, z2, z3, z4, z5, z6, z7, f0, f1, f2, f3, f4, f5, f6, f7⟩ := ans_cells (HA.out.below HB4.out); clear hb4)
          | fail)
        refine bodyPost_ret (results_blk Tryz.results90 _ _ (w.heap.size + 1) 59 [.int .i64 3, .int .i64 0, .int .i64 0, .slice none 0 0, .string ⟨#[]⟩, .string ⟨#[]⟩, .bool false, .bool false] _ rfl (set8_blk (HA.out.below HB4.out) (.int .i64 3) (.int .i64 0) (.int .i64 0) (.slice none 0 0) (.string ⟨#[]⟩) (.string ⟨#[]⟩) (.bool false) (.bool false)) Tryz.underlying59 rfl infoAn) rfl ?_
        exact fin_fam HM.out HALL.out HOM.out.1 (HY.out.below HB4.out) ⟨Nat.le_succ _, HL2.out⟩ (fall_rt HRO.out) rfl (no 3) none 0 (World.ownsRow_nil _ _ _ _) (fun k hk => by cases hk) _ _ _ _ _ _ _ _
      | false =>
        rw [hu] at q2
        have HST : Hid (∀ b, stepG b (some o.f) x.c = if withinP x.c.sc o.f.sc = false then (some o.f, no 6) else if 6 < o.f.tk.length then (some o.f, no 7) else (some (issG (useG o.f i) (if x.c.sc = [] then o.f.sc else x.c.sc) true).1, (issG (useG o.f i) (if x.c.sc = [] then o.f.sc else x.c.sc) true).2)) := by
          intro b
          unfold stepG; rw [if_neg (by omega), if_neg (by omega), if_neg (by omega), if_pos hk]; show (if o.f.rev = true ∨ o.f.cl ≠ x.c.cl then _ else match tokG o.f 3 x.c.ser with | none => _ | some t => _) = _; rw [if_neg hno, htk]; show (if it.used = true then _ else _) = _; rw [hx5, if_neg (show ¬ t.t.used = true by rw [show t.t.used = false from hu]; simp), show (x.c.ser - 1).toNat = i by omega]
        obtain ⟨s1, s2⟩ := fit_words HRO.out.fit
        obtain ⟨u1, u2⟩ := fit_words hm.fit
        have HGO : Hid (∀ W, Below w2.heap.size w2 W → GoodL W o.sc) := fun W hW => own_goodR (HFO.out.own.below hW).sc s1 (by have : o.sc.2.2.length ≤ 32 := s2; omega)
        have HGX : Hid (∀ W, Below w2.heap.size w2 W → GoodL W x.l) := fun W hW => (((hx.below hpr.bel).below hW).sc).good (by show x.c.sc.length ≤ _; omega)
        have HWI : Hid (∀ W, Below w2.heap.size w2 W → Calls Tryz.prog 106 #[.slice x.p x.c.sc.length x.r, .slice o.sc.1 o.sc.2.2.length o.sc.2.1] W fun e w' => e = .returned (.bool (withinP x.c.sc o.f.sc)) ∧ Below W.heap.size W w') := fun W hW => scp.within_c x.l o.sc W (HGX.out W hW) (HGO.out W hW)
        cases hwi : withinP x.c.sc o.f.sc with
        | false =>
          rw [hwi] at HWI HST
          have HSP := Lib.hid (spec_same (room := room) h hg (a := no 6) fun b => by show stepG b (some o.f) x.c = _; rw [HST.out]; rfl)
          rw [HSP.out]
          clear h hall hx hm hk hpr hsep hfl hg hrv hom hoi hlv hrf h1 hno htk HTK hx1 hx2 hx3 hx4 hx5 hi hti hat hu s1 s2 u1 u2 hwi HST
          go_enter Tryz.func90, Tryz.ntmps90
          go_wp2_with (first
            | (go_at_call 108; (with_reducible refine HLV.out.mono ?_); rintro e w3 ⟨rfl, hw3⟩; obtain rfl : w2 = w3 := hw3.symm)
            | fail)
          go_quiet (fail)
          have HBQ := Lib.hid (below_drewN (Below.refl w2.heap.size w2) nq)
          go_upto_region 10 with (first
            | (go_at_call 111; (with_reducible refine (HT0.out _ HBQ.out).mono ?_); rintro e w3 ⟨rfl, hw3⟩; subst hw3)
            | fail)
          go_region_with (go_at_call 106; (with_reducible refine (HWI.out _ ?_).mono ?_); first | exact HBQ.out | exact HBQ.out.drew; rintro e w5 ⟨rfl, hb5⟩; have HB5 := Lib.hid (bnext (by first | exact HBQ.out | exact HBQ.out.drew) hb5); clear hb5)
          all_goals
            go_wp2_with (first
              | (go_at_call 59; (with_reducible refine (HRF.out _ _).mono ?_); rintro e w4 ⟨rfl, hb4⟩; have HB4 := Lib.hid (bnext HB5.out hb4); obtain ⟨z0, z1, z2, z3, z4, z5, z6, z7, f0, f1, f2, f3, f4, f5, f6, f7⟩ := ans_cells (HPR.out.ans.below HB4.out); clear hb4)
              | fail)
            refine bodyPost_ret (results_blk Tryz.results90 _ _ (w.heap.size + 1) 59 [.int .i64 6, .int .i64 0, .int .i64 0, .slice none 0 0, .string ⟨#[]⟩, .string ⟨#[]⟩, .bool false, .bool false] _ rfl (set8_blk (HPR.out.ans.below HB4.out) (.int .i64 6) (.int .i64 0) (.int .i64 0) (.slice none 0 0) (.string ⟨#[]⟩) (.string ⟨#[]⟩) (.bool false) (.bool false)) Tryz.underlying59 rfl infoAn) rfl ?_
            exact fin_same HM.out HALL.out (bnext HPR.out.bel HB4.out) (Nat.lt_of_lt_of_le HL2.out HB4.out.size) (no 6) rfl _ _ _ _ _ _ _ _
        | true =>
          rw [hwi] at HWI HST
          by_cases h6 : 6 < o.tk.length
          · have h6I : (o.tk.length : Int) > 6 := by omega
            have h6f : 6 < o.f.tk.length := by rw [show o.f.tk.length = o.tk.length from List.length_map ..]; exact h6
            have HSP := Lib.hid (spec_same (room := room) h hg (a := no 7) fun b => by show stepG b (some o.f) x.c = _; rw [HST.out, if_neg (by simp), if_pos h6f]; rfl)
            rw [HSP.out]
            clear h hall hx hm hk hpr hsep hfl hg hrv hom hoi hlv hrf h1 hno htk HTK hx1 hx2 hx3 hx4 hx5 hi hti hat hu s1 s2 u1 u2 hwi HST h6 h6f
            go_enter Tryz.func90, Tryz.ntmps90
            go_wp2_with (first
              | (go_at_call 108; (with_reducible refine HLV.out.mono ?_); rintro e w3 ⟨rfl, hw3⟩; obtain rfl : w2 = w3 := hw3.symm)
              | fail)
            go_quiet (fail)
            have HBQ := Lib.hid (below_drewN (Below.refl w2.heap.size w2) nq)
            go_upto_region 10 with (first
              | (go_at_call 111; (with_reducible refine (HT0.out _ HBQ.out).mono ?_); rintro e w3 ⟨rfl, hw3⟩; subst hw3)
              | fail)
            go_region_with (go_at_call 106; (with_reducible refine (HWI.out _ ?_).mono ?_); first | exact HBQ.out | exact HBQ.out.drew; rintro e w5 ⟨rfl, hb5⟩; have HB5 := Lib.hid (bnext (by first | exact HBQ.out | exact HBQ.out.drew) hb5); have e8 : w5.cell? ⟨o.g, 8, none⟩ = some (.slice o.tp o.tk.length o.tc) := (HFO.out.blk.below HB5.out).cell 8; clear hb5)
            all_goals
              go_wp2_with (first
                | (go_at_call 59; (with_reducible refine (HRF.out _ _).mono ?_); rintro e w4 ⟨rfl, hb4⟩; have HB4 := Lib.hid (bnext HB5.out hb4); obtain ⟨z0, z1, z2, z3, z4, z5, z6, z7, f0, f1, f2, f3, f4, f5, f6, f7⟩ := ans_cells (HPR.out.ans.below HB4.out); clear hb4)
                | fail)
              refine bodyPost_ret (results_blk Tryz.results90 _ _ (w.heap.size + 1) 59 [.int .i64 7, .int .i64 0, .int .i64 0, .slice none 0 0, .string ⟨#[]⟩, .string ⟨#[]⟩, .bool false, .bool false] _ rfl (set8_blk (HPR.out.ans.below HB4.out) (.int .i64 7) (.int .i64 0) (.int .i64 0) (.slice none 0 0) (.string ⟨#[]⟩) (.string ⟨#[]⟩) (.bool false) (.bool false)) Tryz.underlying59 rfl infoAn) rfl ?_
              exact fin_same HM.out HALL.out (bnext HPR.out.bel HB4.out) (Nat.lt_of_lt_of_le HL2.out HB4.out.size) (no 7) rfl _ _ _ _ _ _ _ _
          · have h6I : ¬ (o.tk.length : Int) > 6 := by omega
            have h6f : ¬ 6 < o.f.tk.length := by rw [show o.f.tk.length = o.tk.length from List.length_map ..]; exact h6
            have hstep : ∀ b, stepG b (some o.f) x.c = (some (issG (useG o.f i) (if x.c.sc = [] then o.f.sc else x.c.sc) true).1, (issG (useG o.f i) (if x.c.sc = [] then o.f.sc else x.c.sc) true).2) := fun b => by rw [HST.out, if_neg (by simp), if_neg h6f]
            have HSP := Lib.hid (spec_fam (room := room) hg hstep)
            rw [HSP.out]
            have HRT := Lib.hid (step_right (o := some o.f) hm (full := false) (fun f hf => by injection hf with hf; subst hf; exact ⟨HRO.out, hoi⟩) _ (by rw [hstep]))
            obtain ⟨ss, hss⟩ : ∃ ss, (if x.c.sc = [] then o.f.sc else x.c.sc) = ss := ⟨_, rfl⟩
            rw [hss] at HRT ⊢
            have HSS := Lib.hid hss
            clear hss
            have HOI := Lib.hid hoi
            have HUS : Hid (∀ W, Below w2.heap.size w2 W → W.frozen? ⟨b, i * 3 + 2, none⟩ = false ∧ o.has b ∧ IS w (W.setCell ⟨b, i * 3 + 2, none⟩ (.bool true)) o { o with tk := o.tk.set i { t with used := true } } (useG o.f i) (fun k => w.heap.size ≤ k ∧ k < w2.heap.size)) := fun W hW => by
              obtain ⟨a1, a2, a3⟩ := (HM.out.fams o HOM.out.1).use (bnext HPR.out.bel hW) hx1 hx3
              exact ⟨a1, a2, a3.weak fun k hk => ⟨hk.1, Nat.lt_of_lt_of_le hk.2 hW.size⟩⟩
            have HFT := Lib.hid (And.intro s1 (And.intro s2 (And.intro u1 u2)))
            have hbw : b < w.heap.size := by
              have h := (HUS.out w2 HB0.out).2.1
              exact (HM.out.fams o HOM.out.1).lt b h
            have HQ : Hid (∀ W, Below w2.heap.size w2 W → W.cell? ⟨b, i * 3 + 2, none⟩ = some (.bool false)) := fun W hW => (hW.cell (p := ⟨b, i * 3 + 2, none⟩) (cell_lt q2)).trans q2
            have HFEW : Hid (o.tk.length ≤ 8) := hfew
            clear h hall hx hm hk hpr hsep hfl hg hrv hom hoi hlv hrf h1 hno htk HTK hx1 hx2 hx3 hx4 hx5 hi hti hat hu s1 s2 u1 u2 hwi HST h6 h6f hstep
            go_enter Tryz.func90, Tryz.ntmps90
            go_wp2_with (first
              | (go_at_call 108; (with_reducible refine HLV.out.mono ?_); rintro e w3 ⟨rfl, hw3⟩; obtain rfl : w2 = w3 := hw3.symm)
              | fail)
            go_quiet (fail)
            have HBQ := Lib.hid (below_drewN (Below.refl w2.heap.size w2) nq)
            go_upto_region 10 with (first
              | (go_at_call 111; (with_reducible refine (HT0.out _ HBQ.out).mono ?_); rintro e w3 ⟨rfl, hw3⟩; subst hw3)
              | fail)
            go_region_with (go_at_call 106; (with_reducible refine (HWI.out _ ?_).mono ?_); first | exact HBQ.out | exact HBQ.out.drew; rintro e w5 ⟨rfl, hb5⟩; have HB5 := Lib.hid (bnext (by first | exact HBQ.out | exact HBQ.out.drew) hb5); have e8 : w5.cell? ⟨o.g, 8, none⟩ = some (.slice o.tp o.tk.length o.tc) := (HFO.out.blk.below HB5.out).cell 8; have eq2 := HQ.out _ HB5.out; have fq2 := (HUS.out _ HB5.out).1; clear hb5)
            all_goals
              go_upto_region 15 with fail
              obtain ⟨_, _, hy⟩ := HUS.out _ HB5.out
              have hA : Blk (w5.setCell ⟨b, i * 3 + 2, none⟩ (.bool true)) (w.heap.size + 1) 59 zerA := blk_turn (HPR.out.ans.below HB5.out) (Turn.set (S := fun k => k = b) _ b (i * 3 + 2) (.bool true) rfl) (by omega)
              have hC : Blk (w5.setCell ⟨b, i * 3 + 2, none⟩ (.bool true)) w.heap.size 48 (cenc x) := blk_turn (HPR.out.cmd.below HB5.out) (Turn.set (S := fun k => k = b) _ b (i * 3 + 2) (.bool true) rfl) (by omega)
              have hTb : Turn (fun k => k = b) w5 (w5.setCell ⟨b, i * 3 + 2, none⟩ (.bool true)) := Turn.set _ _ _ _ rfl
              have hgx : GoodL (w5.setCell ⟨b, i * 3 + 2, none⟩ (.bool true)) x.l := by
                have h1 := HGX.out w5 HB5.out
                have hrow : InS (w5.setCell ⟨b, i * 3 + 2, none⟩ (.bool true)) x.l.1 x.l.2.2 := by
                  by_cases hs0 : x.c.sc = []
                  · intro hl
                    exact absurd hl (by show ¬ 0 < x.c.sc.length; rw [hs0]; decide)
                  · exact ing_turn senc_len (by decide) h1.row hTb (fun b2 o2 z2 e1 _ e2 => by
                      subst e2
                      refine HSEP.out b2 o2 z2 hs0 e1 hbw ?_
                      exact (HM.out.fams o HOM.out.1).foot b2 (HUS.out w2 HB0.out).2.1)
                exact ⟨hrow, h1.room, h1.nil, h1.fit, h1.few⟩
              obtain ⟨w6, hw6⟩ : ∃ w6, w5.setCell ⟨b, i * 3 + 2, none⟩ (.bool true) = w6 := ⟨_, rfl⟩
              rw [hw6] at hA hC hy hgx ⊢
              have g3 : w6.cell? ⟨o.g, 3, none⟩ = some (.slice o.sc.1 o.sc.2.2.length o.sc.2.1) := hy.fam.blk.cell 3
              have hgo : GoodL w6 o.sc := own_goodR hy.fam.own.sc HFT.out.1 (by have : o.sc.2.2.length ≤ 32 := HFT.out.2.1; omega)
              have KEY : Hid (∀ s : Lst, GoodL w6 s → Calls Tryz.prog 110 #[dptr o.g, lval s, .bool true] w6 fun e w' => ∃ p q z, e = .returned (.agg #[.int .i64 0, .int .i64 (((useG o.f i).tk.length : Int) + 1), .int .i64 (((useG o.f i).tk.length : Int) + 2), .slice p s.2.2.length q, .string ⟨#[]⟩, .string ⟨#[]⟩, .bool false, .bool false]) ∧ w'.ownsRow w6.heap.size 9 1 (.slice p s.2.2.length q) s.2.2.length (cells senc s.2.2) ∧ IS w w' o z (issG (useG o.f i) s.2.2 true).1 (fun k => (w.heap.size ≤ k ∧ k < w2.heap.size) ∨ (Value.slice p s.2.2.length q).ownBlock = some k) ∧ Blk w' (w.heap.size + 1) 59 zerA) := by
                intro s hs
                have hz := issued_c hy.fam (by show (o.tk.set i _).length ≤ _; rw [List.length_set]; have := HFEW.out; omega) HFT.out.1 (by have : o.sc.2.2.length ≤ 32 := HFT.out.2.1; show o.sc.2.2.length ≤ _; omega) s hs true
                refine hz.mono ?_
                rintro e w' ⟨p, q, z, rfl, k1, k2⟩
                rw [hy.f] at k2 ⊢
                exact ⟨p, q, z, rfl, k1, hy.trans k2, hy.blk k2 hA ⟨Nat.le_succ _, HL2.out⟩⟩
              have HGX6 := Lib.hid hgx
              have HGO6 := Lib.hid hgo
              have HS6 : Hid (w.heap.size + 2 ≤ w6.heap.size) := hA.lt
              obtain ⟨k0, k1, k2, k3, k4, k5, k6, k7, k8, k9, k10, k11, k12⟩ := cmd_cells hC
              clear hA hC hy hgx hgo hTb hw6 eq2 fq2 e8
              by_cases hse : x.c.sc = []
              · have e1 : ss = o.f.sc := by rw [← HSS.out, if_pos hse]
                have y5 : ((x.c.sc.length : Int) == 0) = true := by rw [hse]; rfl
                rw [e1] at HRT
                have HE1 := Lib.hid e1
                clear e1
                have HKY : Hid (Calls Tryz.prog 110 #[dptr o.g, .slice o.sc.1 o.sc.2.2.length o.sc.2.1, .bool true] w6 fun e w' => ∃ p q z, e = .returned (.agg #[.int .i64 0, .int .i64 (((useG o.f i).tk.length : Int) + 1), .int .i64 (((useG o.f i).tk.length : Int) + 2), .slice p o.sc.2.2.length q, .string ⟨#[]⟩, .string ⟨#[]⟩, .bool false, .bool false]) ∧ w'.ownsRow w6.heap.size 9 1 (.slice p o.sc.2.2.length q) o.sc.2.2.length (cells senc o.sc.2.2) ∧ IS w w' o z (issG (useG o.f i) o.sc.2.2 true).1 (fun k => (w.heap.size ≤ k ∧ k < w2.heap.size) ∨ (Value.slice p o.sc.2.2.length q).ownBlock = some k) ∧ Blk w' (w.heap.size + 1) 59 zerA) := KEY.out o.sc HGO6.out
                clear hse KEY
                go_wp2_with fail
                refine HKY.out.mono ?_
                rintro e w7 ⟨p, q, z, rfl, ho7, hz7, hA7⟩
                have HO7 := Lib.hid ho7
                have HZ7 := Lib.hid hz7
                have HA7 := Lib.hid hA7
                obtain ⟨z0, z1, z2, z3, z4, z5, z6, z7, f0, f1, f2, f3, f4, f5, f6, f7⟩ := ans_cells hA7
                clear ho7 hz7 hA7
                go_wp2_with fail
                refine bodyPost_ret (results_blk Tryz.results90 _ _ (w.heap.size + 1) 59 [.int .i64 0, .int .i64 (((useG o.f i).tk.length : Int) + 1), .int .i64 (((useG o.f i).tk.length : Int) + 2), .slice p o.sc.2.2.length q, .string ⟨#[]⟩, .string ⟨#[]⟩, .bool false, .bool false] _ rfl (set8_blk HA7.out (.int .i64 0) (.int .i64 (((useG o.f i).tk.length : Int) + 1)) (.int .i64 (((useG o.f i).tk.length : Int) + 2)) (.slice p o.sc.2.2.length q) (.string ⟨#[]⟩) (.string ⟨#[]⟩) (.bool false) (.bool false)) Tryz.underlying59 rfl infoAn) rfl ?_
                rw [HE1.out]
                exact fin_fam HM.out HALL.out HOM.out.1 HZ7.out (Or.inl ⟨Nat.le_succ _, HL2.out⟩) HRT.out.1 (HRT.out.2.trans HOI.out.symm) (issG (useG o.f i) o.f.sc true).2 p q (own_baseR HO7.out HS6.out) (fun k hk => Or.inr hk) _ _ _ _ _ _ _ _
              · have e1 : ss = x.c.sc := by rw [← HSS.out, if_neg hse]
                have y5 : ((x.c.sc.length : Int) == 0) = false := by rw [beq_eq_false_iff_ne]; intro e; exact hse (List.eq_nil_of_length_eq_zero (by omega))
                rw [e1] at HRT
                have HE1 := Lib.hid e1
                clear e1
                have HKY : Hid (Calls Tryz.prog 110 #[dptr o.g, .slice x.p x.c.sc.length x.r, .bool true] w6 fun e w' => ∃ p q z, e = .returned (.agg #[.int .i64 0, .int .i64 (((useG o.f i).tk.length : Int) + 1), .int .i64 (((useG o.f i).tk.length : Int) + 2), .slice p x.c.sc.length q, .string ⟨#[]⟩, .string ⟨#[]⟩, .bool false, .bool false]) ∧ w'.ownsRow w6.heap.size 9 1 (.slice p x.c.sc.length q) x.c.sc.length (cells senc x.c.sc) ∧ IS w w' o z (issG (useG o.f i) x.c.sc true).1 (fun k => (w.heap.size ≤ k ∧ k < w2.heap.size) ∨ (Value.slice p x.c.sc.length q).ownBlock = some k) ∧ Blk w' (w.heap.size + 1) 59 zerA) := KEY.out x.l HGX6.out
                clear hse KEY
                go_wp2_with fail
                refine HKY.out.mono ?_
                rintro e w7 ⟨p, q, z, rfl, ho7, hz7, hA7⟩
                have HO7 := Lib.hid ho7
                have HZ7 := Lib.hid hz7
                have HA7 := Lib.hid hA7
                obtain ⟨z0, z1, z2, z3, z4, z5, z6, z7, f0, f1, f2, f3, f4, f5, f6, f7⟩ := ans_cells hA7
                clear ho7 hz7 hA7
                go_wp2_with fail
                refine bodyPost_ret (results_blk Tryz.results90 _ _ (w.heap.size + 1) 59 [.int .i64 0, .int .i64 (((useG o.f i).tk.length : Int) + 1), .int .i64 (((useG o.f i).tk.length : Int) + 2), .slice p x.c.sc.length q, .string ⟨#[]⟩, .string ⟨#[]⟩, .bool false, .bool false] _ rfl (set8_blk HA7.out (.int .i64 0) (.int .i64 (((useG o.f i).tk.length : Int) + 1)) (.int .i64 (((useG o.f i).tk.length : Int) + 2)) (.slice p x.c.sc.length q) (.string ⟨#[]⟩) (.string ⟨#[]⟩) (.bool false) (.bool false)) Tryz.underlying59 rfl infoAn) rfl ?_
                rw [HE1.out]
                exact fin_fam HM.out HALL.out HOM.out.1 HZ7.out (Or.inl ⟨Nat.le_succ _, HL2.out⟩) HRT.out.1 (by rw [HRT.out.2]; exact HOI.out.symm) (issG (useG o.f i) x.c.sc true).2 p q (own_baseR HO7.out HS6.out) (fun k hk => Or.inr hk) _ _ _ _ _ _ _ _
end Go.Proofs.YthagdkipipldlaaGreatDoor.gra
