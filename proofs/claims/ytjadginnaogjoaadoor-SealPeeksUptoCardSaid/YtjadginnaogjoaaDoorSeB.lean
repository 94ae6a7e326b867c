/- The law SealAlone: of one token just one text is opened by a secret; texts of unlike tokens are unlike. St; the secrets within the reach. -/
import Derived.Test.YtjadginnaogjoaaDoorSeA
namespace Go.Proofs.YtjadginnaogjoaaDoor.sea
open Go.RowKit
open Go.Proofs.YtjadginnaogjoaaDoor.oct Go.Proofs.YtjadginnaogjoaaDoor.ref Go.Proofs.YtjadginnaogjoaaDoor.rows Go.Proofs.YtjadginnaogjoaaDoor.trn
open Go.Proofs.YtjadginnaogjoaaDoor.sha (Rm)
open Go.Lib (byteCells)

def tkB (t u : Tk) : Bool := (t.k == u.k) && ((t.f == u.f) && (t.n == u.n))
theorem tkB_iff {t u : Tk} : tkB t u = true ↔ t = u := by
  unfold tkB
  simp only [Bool.and_eq_true, beq_iff_eq]
  constructor
  · rintro ⟨h1, h2, h3⟩
    cases t; cases u
    simp only at h1 h2 h3
    rw [h1, h2, h3]
  · rintro rfl
    exact ⟨rfl, rfl, rfl⟩
theorem tok_eq (t u : Tk) (w : World) : (binOp .eql 24 (tok t) (tok u)).run Tryd.prog w = .ok (.bool (tkB t u)) w := by
  have h := eq3 t.k t.n u.k u.n ⟨t.f.toArray⟩ ⟨u.f.toArray⟩ w
  rw [tl_mk, tl_mk] at h
  exact h
theorem outO_cases (key s : T) : (∃ u, outO key s = .inl u ∧ Rt u ∧ s = mkS key u) ∨ (∃ n, outO key s = .inr n ∧ (n = 3 ∨ n = 5)) := by
  cases h : readP s with
  | none => exact Or.inr ⟨3, outO_none h, Or.inl rfl⟩
  | some u =>
    obtain ⟨g, hg⟩ := readP_iff.1 h
    by_cases h2 : s.drop (s.length - 16) = tagT key (headT u)
    · refine Or.inl ⟨u, outO_yes h h2, hg.r, ?_⟩
      unfold mkS
      rw [if_pos hg.r, ← h2, hg.drop]
      exact hg.e
    · exact Or.inr ⟨5, outO_no h h2, Or.inr rfl⟩
theorem mk_apart {k1 k2 : T} {t u : Tk} (ht : Rt t) (hu : Rt u) (h : mkS k1 t = mkS k2 u) : t = u := by
  have h1 := mk_read k1 ht
  rw [h, mk_read k2 hu] at h1
  exact (Option.some.inj h1).symm
set_option maxRecDepth 100000 in
set_option maxHeartbeats 8000000 in
theorem law_alone (p : Option Addr) (cp : Nat) (key s : T) (q : Option Addr) (cq : Nat) (oth : T) (t : Tk) (w : World) (ht : St w) (hp : In8 w p key) (hk : key.length ≤ 140737488354000) (hn : Rm p cp key.length) (hs : s.length ≤ 140737488355328)
    (hq : In8 w q oth) (hk2 : oth.length ≤ 140737488354000) (hn2 : Rm q cq oth.length) :
    Calls Tryd.prog 6 #[.slice p key.length cp, txt s, .slice q oth.length cq, tok t] w fun e w' => e = .returned (.bool true) ∧ Below w.heap.size w w' := by
  have HT := Lib.hid ht
  have HP := Lib.hid hp
  have HQ := Lib.hid hq
  have hguard := guard3
  obtain ⟨w0, hw0⟩ : ∃ w0, w.alloc (.cells #[.int .i64 t.k, txt t.f, .int .i64 t.n] 24) = w0 := ⟨_, rfl⟩
  have hK0 : Blk w0 w.heap.size 24 [.int .i64 t.k, txt t.f, .int .i64 t.n] := by rw [← hw0]; exact blk_new w _ _ _ rfl
  have hb0 : Below w.heap.size w w0 := by rw [← hw0]; exact (Below.refl _ w).alloc (Nat.le_refl _) _
  have HOP := Lib.hid (open_c p cp key s w0 (ht.below hb0) (hp.below hb0) hk hn hs)
  have HK0 := Lib.hid hK0
  have HB0 := Lib.hid hb0
  clear hK0 hb0 ht hp hq
  rcases outO_cases key s with ⟨u, ho, hru, hsu⟩ | ⟨n, ho, hn3⟩
  · have HM1 := Lib.hid (fun w h h2 => make_c p cp key u w h h2 hk hn)
    have e1 : mkE u = 0 := by unfold mkE; rw [if_pos hru]
    rw [e1, ← hsu] at HM1
    rw [ho] at HOP
    have HM2 := Lib.hid (fun w h h2 => make_c q cq oth t w h h2 hk2 hn2)
    have heq := fun w => tok_eq t u w
    by_cases hrt : Rt t
    · have e2 : mkE t = 0 := by unfold mkE; rw [if_pos hrt]
      rw [e2] at HM2
      have hap : tkB t u = false → (mkS oth t == s) = false := fun hf => by
        rw [beq_eq_false_iff_ne]
        intro h
        have : t = u := mk_apart hrt hru (h.trans hsu)
        rw [tkB_iff.2 this] at hf
        cases hf
      obtain ⟨X, hX⟩ : ∃ X, mkS oth t = X := ⟨_, rfl⟩
      rw [hX] at HM2 hap
      obtain ⟨b, hb⟩ : ∃ b, tkB t u = b := ⟨_, rfl⟩
      rw [hb] at hap
      have HAP := Lib.hid hap
      have heq2 : ∀ w, (binOp .eql 24 (tok t) (tok u)).run Tryd.prog w = .ok (.bool b) w := fun w => by rw [← hb]; exact heq w
      clear heq hX hb e1 e2 hrt hru hsu ho hk hn hk2 hn2 hs hap
      unfold tokO errO at HOP
      dsimp only at HOP
      cases t with
      | mk k' f' n' =>
      cases u with
      | mk k f n =>
        unfold tok at *
        unfold txt at *
        dsimp only at HOP HM1 HM2 hw0 heq2 HK0 ⊢
        obtain ⟨S, hS⟩ : ∃ S, (⟨f.toArray⟩ : ByteArray) = S := ⟨_, rfl⟩
        obtain ⟨S', hS'⟩ : ∃ S', (⟨f'.toArray⟩ : ByteArray) = S' := ⟨_, rfl⟩
        simp only [hS, hS'] at HOP HM1 HM2 hw0 heq2 HK0 ⊢
        clear hS hS'
        go_enter Tryd.func6, Tryd.ntmps6
        go_wp2_with fail
        refine HOP.out.mono ?_
        rintro e w1 ⟨rfl, hb1⟩
        clear hw0
        obtain ⟨wa, wb, hv⟩ := var3 w1 (.int .i64 k) (.string S) (.int .i64 n)
        have ha := hv.a
        have hb := hv.s
        obtain ⟨d0, d1, d2⟩ := blk3 hv.zero
        obtain ⟨f0, f1, f2⟩ := frz3 hv.zero
        have HB1 := Lib.hid (bnext (bnext HB0.out hb1) hv.below)
        have HK1 := Lib.hid (HK0.out.below (bnext hb1 hv.below))
        have HV1 := Lib.hid hv.blk
        clear hv hb1 HB0 HK0 HOP
        go_wp2_with fail
        clear ha hb d0 d1 d2 f0 f1 f2
        refine (known16_c _ (HT.out.below HB1.out)).mono ?_
        rintro e w2 ⟨rfl, hb1⟩
        have HB2 := Lib.hid (bnext HB1.out hb1)
        have HK2 := Lib.hid (HK1.out.below hb1)
        have HV2 := Lib.hid (HV1.out.below hb1)
        obtain ⟨d0, d1, d2⟩ := blk3 HV2.out
        clear hb1 HB1 HK1 HV1
        go_wp2_with fail
        refine (HM1.out _ (HT.out.below HB2.out) (HP.out.below HB2.out)).mono ?_
        rintro e w3 ⟨rfl, hb1⟩
        have HB3 := Lib.hid (bnext HB2.out hb1)
        have HK3 := Lib.hid (HK2.out.below hb1)
        have HV3 := Lib.hid (HV2.out.below hb1)
        clear d0 d1 d2
        obtain ⟨d0, d1, d2⟩ := blk3 HK3.out
        clear hb1 HB2 HK2 HV2
        go_wp2_with fail
        refine (HM2.out _ (HT.out.below HB3.out) (HQ.out.below HB3.out)).mono ?_
        rintro e w4 ⟨rfl, hb1⟩
        have HB4 := Lib.hid (bnext HB3.out hb1)
        clear d0 d1 d2
        obtain ⟨d0, d1, d2⟩ := blk3 (HK3.out.below hb1)
        obtain ⟨v0, v1, v2⟩ := blk3 (HV3.out.below hb1)
        clear hb1 HB3 HK3 HV3 HM1 HM2
        cases b
        · have hx := HAP.out rfl
          go_wp2_with fail
          go_ret
          exact ⟨ret_bool (by simp), HB4.out⟩
        · go_wp2_with fail
          go_ret
          exact ⟨ret_bool (by simp), HB4.out⟩
    · have e2 : mkE t = 1 := by unfold mkE; rw [if_neg hrt]
      rw [e2] at HM2
      obtain ⟨X, hX⟩ : ∃ X, mkS oth t = X := ⟨_, rfl⟩
      rw [hX] at HM2
      clear heq hX e1 e2 hrt hru hsu ho hk hn hk2 hn2 hs
      unfold tokO errO at HOP
      dsimp only at HOP
      cases t with
      | mk k' f' n' =>
      cases u with
      | mk k f n =>
        unfold tok at *
        unfold txt at *
        dsimp only at HOP HM1 HM2 hw0 HK0 ⊢
        obtain ⟨S, hS⟩ : ∃ S, (⟨f.toArray⟩ : ByteArray) = S := ⟨_, rfl⟩
        obtain ⟨S', hS'⟩ : ∃ S', (⟨f'.toArray⟩ : ByteArray) = S' := ⟨_, rfl⟩
        simp only [hS, hS'] at HOP HM1 HM2 hw0 HK0 ⊢
        clear hS hS'
        go_enter Tryd.func6, Tryd.ntmps6
        go_wp2_with fail
        refine HOP.out.mono ?_
        rintro e w1 ⟨rfl, hb1⟩
        clear hw0
        obtain ⟨wa, wb, hv⟩ := var3 w1 (.int .i64 k) (.string S) (.int .i64 n)
        have ha := hv.a
        have hb := hv.s
        obtain ⟨d0, d1, d2⟩ := blk3 hv.zero
        obtain ⟨f0, f1, f2⟩ := frz3 hv.zero
        have HB1 := Lib.hid (bnext (bnext HB0.out hb1) hv.below)
        have HK1 := Lib.hid (HK0.out.below (bnext hb1 hv.below))
        have HV1 := Lib.hid hv.blk
        clear hv hb1 HB0 HK0 HOP
        go_wp2_with fail
        clear ha hb d0 d1 d2 f0 f1 f2
        refine (known16_c _ (HT.out.below HB1.out)).mono ?_
        rintro e w2 ⟨rfl, hb1⟩
        have HB2 := Lib.hid (bnext HB1.out hb1)
        have HK2 := Lib.hid (HK1.out.below hb1)
        have HV2 := Lib.hid (HV1.out.below hb1)
        obtain ⟨d0, d1, d2⟩ := blk3 HV2.out
        clear hb1 HB1 HK1 HV1
        go_wp2_with fail
        refine (HM1.out _ (HT.out.below HB2.out) (HP.out.below HB2.out)).mono ?_
        rintro e w3 ⟨rfl, hb1⟩
        have HB3 := Lib.hid (bnext HB2.out hb1)
        have HK3 := Lib.hid (HK2.out.below hb1)
        have HV3 := Lib.hid (HV2.out.below hb1)
        clear d0 d1 d2
        obtain ⟨d0, d1, d2⟩ := blk3 HK3.out
        clear hb1 HB2 HK2 HV2
        go_wp2_with fail
        refine (HM2.out _ (HT.out.below HB3.out) (HQ.out.below HB3.out)).mono ?_
        rintro e w4 ⟨rfl, hb1⟩
        have HB4 := Lib.hid (bnext HB3.out hb1)
        clear d0 d1 d2
        obtain ⟨d0, d1, d2⟩ := blk3 (HK3.out.below hb1)
        obtain ⟨v0, v1, v2⟩ := blk3 (HV3.out.below hb1)
        clear hb1 HB3 HK3 HV3 HM1 HM2
        go_wp2_with fail
        go_ret
        exact ⟨ret_bool (by simp), HB4.out⟩
  · have heq := eq3 0 0 0 0 ⟨#[]⟩ ⟨#[]⟩
    rw [ho] at HOP
    clear ho hk hn hk2 hn2 hs
    unfold tokO errO at HOP
    dsimp only at HOP
    cases t with
    | mk k' f' n' =>
      unfold tok at *
      unfold txt at *
      dsimp only at HOP hw0 HK0 ⊢
      obtain ⟨S', hS'⟩ : ∃ S', (⟨f'.toArray⟩ : ByteArray) = S' := ⟨_, rfl⟩
      simp only [hS'] at HOP hw0 HK0 ⊢
      clear hS'
      rcases hn3 with rfl | rfl
      all_goals
        go_enter Tryd.func6, Tryd.ntmps6
        go_wp2_with fail
        refine HOP.out.mono ?_
        rintro e w1 ⟨rfl, hb1⟩
        clear hw0
        obtain ⟨wa, wb, hv⟩ := var3 w1 (.int .i64 0) (.string ⟨#[]⟩) (.int .i64 0)
        have ha := hv.a
        have hb := hv.s
        obtain ⟨d0, d1, d2⟩ := blk3 hv.zero
        obtain ⟨f0, f1, f2⟩ := frz3 hv.zero
        have HB1 := Lib.hid (bnext (bnext HB0.out hb1) hv.below)
        have HV1 := Lib.hid hv.blk
        clear hv hb1 HB0 HK0 HOP
        go_wp2_with fail
        clear ha hb d0 d1 d2 f0 f1 f2
        refine (known16_c _ (HT.out.below HB1.out)).mono ?_
        rintro e w2 ⟨rfl, hb1⟩
        have HB2 := Lib.hid (bnext HB1.out hb1)
        have HV2 := Lib.hid (HV1.out.below hb1)
        clear hb1 HB1 HV1
        go_wp2_with fail
        refine (known16_c _ (HT.out.below HB2.out)).mono ?_
        rintro e w3 ⟨rfl, hb1⟩
        have HB3 := Lib.hid (bnext HB2.out hb1)
        obtain ⟨d0, d1, d2⟩ := blk3 (HV2.out.below hb1)
        clear hb1 HB2 HV2
        go_wp2_with fail
        go_ret
        exact ⟨ret_bool (by simp), HB3.out⟩
end Go.Proofs.YtjadginnaogjoaaDoor.sea
