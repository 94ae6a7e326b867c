/- The law SealBack: what is made is opened by its secret. St; the secret within the reach. -/
import Derived.Test.YtjadginnaogjoaaDoorSe9
namespace Go.Proofs.YtjadginnaogjoaaDoor.sea
open Go.RowKit
open Go.Proofs.YtjadginnaogjoaaDoor.oct Go.Proofs.YtjadginnaogjoaaDoor.ref Go.Proofs.YtjadginnaogjoaaDoor.rows Go.Proofs.YtjadginnaogjoaaDoor.trn
open Go.Proofs.YtjadginnaogjoaaDoor.sha (Rm)
open Go.Lib (byteCells)
open Go.Proofs.YtjadginnaogjoaaDoor.pl (text enc_tells)

theorem webs_web (o : T) : webs (webT o) = true := by
  unfold webs webT text
  rw [List.all_map, List.all_eq_true]
  intro d hd
  have h := (enc_tells (w := 6) (by decide) o).1 d hd
  exact (by decide +kernel : ∀ d, d < 64 → webC (sgS webS d) = true) d h
theorem ok_mk (key : T) {t : Tk} (h : Rt t) : Ok (mkS key t) t (tagT key (headT t)) := by
  refine ⟨h, ?_, tag_len _ _, webs_web _⟩
  unfold mkS
  rw [if_pos h]
theorem mk_read (key : T) {t : Tk} (h : Rt t) : readP (mkS key t) = some t := readP_iff.2 ⟨_, ok_mk key h⟩
theorem mk_out (key : T) {t : Tk} (h : Rt t) : outP (mkS key t) = .inl t ∧ outO key (mkS key t) = .inl t :=
  ⟨outP_some (mk_read key h), outO_yes (mk_read key h) (ok_mk key h).drop⟩
theorem mk_len (key : T) {t : Tk} (h : Rt t) : (mkS key t).length = (headT t).length + 16 := (ok_mk key h).len
set_option maxRecDepth 100000 in
set_option maxHeartbeats 8000000 in
theorem law_back (p : Option Addr) (cp : Nat) (key : T) (t : Tk) (w : World) (ht : St w) (hp : In8 w p key) (hk : key.length ≤ 140737488354000) (hn : Rm p cp key.length) :
    Calls Tryd.prog 5 #[.slice p key.length cp, tok t] w fun e w' => e = .returned (.bool true) ∧ Below w.heap.size w w' := by
  have HT := Lib.hid ht
  have HP := Lib.hid hp
  have hguard := guard3
  obtain ⟨w0, hw0⟩ : ∃ w0, w.alloc (.cells #[.int .i64 t.k, txt t.f, .int .i64 t.n] 24) = w0 := ⟨_, rfl⟩
  have hK0 : Blk w0 w.heap.size 24 [.int .i64 t.k, txt t.f, .int .i64 t.n] := by rw [← hw0]; exact blk_new w _ _ _ rfl
  have hb0 : Below w.heap.size w w0 := by rw [← hw0]; exact (Below.refl _ w).alloc (Nat.le_refl _) _
  have HMK := Lib.hid (fun w h h2 => make_c p cp key t w h h2 hk hn)
  have HRT := Lib.hid (fun w h => right_c t w h)
  have HK0 := Lib.hid hK0
  have HB0 := Lib.hid hb0
  obtain ⟨c0, c1, c2⟩ := blk3 hK0
  clear hK0 hb0 ht hp
  by_cases hrt : Rt t
  · have e1 : mkE t = 0 := by unfold mkE; rw [if_pos hrt]
    obtain ⟨o1, o2⟩ := mk_out key hrt
    have HOP := Lib.hid (fun w h h2 => open_c p cp key (mkS key t) w h h2 hk hn (by have := mk_len key hrt; have := headT_len hrt; omega))
    have HPK := Lib.hid (fun w h => peek_c (mkS key t) w h (by have := mk_len key hrt; have := headT_len hrt; omega))
    rw [e1] at HMK
    rw [o2] at HOP
    rw [o1] at HPK
    rw [decide_eq_true hrt] at HRT
    obtain ⟨M, hM⟩ : ∃ M, mkS key t = M := ⟨_, rfl⟩
    rw [hM] at HMK HOP HPK
    clear e1 o1 o2 hM hrt hk hn
    unfold tokO errO at HOP HPK
    dsimp only at HOP HPK
    cases t with
    | mk k f n =>
      unfold tok at *
      unfold txt at *
      dsimp only at HMK HRT HOP HPK hw0 c0 c1 c2 ⊢
      obtain ⟨S, hS⟩ : ∃ S, (⟨f.toArray⟩ : ByteArray) = S := ⟨_, rfl⟩
      simp only [hS] at HMK HRT HOP HPK hw0 c0 c1 c2 HK0 ⊢
      clear hS
      have heq := eq3 k n k n S S
      go_enter Tryd.func5, Tryd.ntmps5
      go_wp2_with fail
      refine (HMK.out _ (HT.out.below HB0.out) (HP.out.below HB0.out)).mono ?_
      rintro e w1 ⟨rfl, hb1⟩
      clear c0 c1 c2 hw0
      have HB1 := Lib.hid (bnext HB0.out hb1)
      have HK1 := Lib.hid (HK0.out.below hb1)
      clear hb1 HB0 HK0
      go_wp2_with fail
      refine (known16_c _ (HT.out.below HB1.out)).mono ?_
      rintro e w2 ⟨rfl, hb1⟩
      have HB2 := Lib.hid (bnext HB1.out hb1)
      have HK2 := Lib.hid (HK1.out.below hb1)
      clear hb1 HB1 HK1
      go_wp2_with fail
      refine (HOP.out _ (HT.out.below HB2.out) (HP.out.below HB2.out)).mono ?_
      rintro e w3 ⟨rfl, hb1⟩
      obtain ⟨wa, wb, hv⟩ := var3 w3 (.int .i64 k) (.string S) (.int .i64 n)
      have ha := hv.a
      have hb := hv.s
      obtain ⟨d0, d1, d2⟩ := blk3 hv.zero
      obtain ⟨f0, f1, f2⟩ := frz3 hv.zero
      have HB3 := Lib.hid (bnext (bnext HB2.out hb1) hv.below)
      have HK3 := Lib.hid (HK2.out.below (bnext hb1 hv.below))
      have HV3 := Lib.hid hv.blk
      clear hv hb1 HB2 HK2
      go_wp2_with fail
      clear ha hb d0 d1 d2 f0 f1 f2
      refine (HPK.out _ (HT.out.below HB3.out)).mono ?_
      rintro e w4 ⟨rfl, hb1⟩
      obtain ⟨wc, wd, hv⟩ := var3 w4 (.int .i64 k) (.string S) (.int .i64 n)
      have ha := hv.a
      have hb := hv.s
      obtain ⟨d0, d1, d2⟩ := blk3 hv.zero
      obtain ⟨f0, f1, f2⟩ := frz3 hv.zero
      have HB4 := Lib.hid (bnext (bnext HB3.out hb1) hv.below)
      obtain ⟨k0, k1, k2⟩ := blk3 (HK3.out.below (bnext hb1 hv.below))
      obtain ⟨u0, u1, u2⟩ := blk3 (HV3.out.below (bnext hb1 hv.below))
      obtain ⟨v0, v1, v2⟩ := blk3 hv.blk
      clear hv hb1 HB3 HK3 HV3
      have HRT2 := Lib.hid (HRT.out wd (HT.out.below HB4.out))
      go_wp2_with (go_at_call 11; refine HRT2.out.mono ?_; rintro e w5 ⟨rfl, hb1⟩; have HB5 := Lib.hid (bnext HB4.out hb1); clear hb1)
      go_ret
      exact ⟨ret_bool (by simp), HB5.out⟩
  · have e1 : mkE t = 1 := by unfold mkE; rw [if_neg hrt]
    have e2 : mkS key t = [] := by unfold mkS; rw [if_neg hrt]
    rw [e1, e2] at HMK
    rw [decide_eq_false hrt] at HRT
    clear e1 e2 hrt hk hn
    cases t with
    | mk k f n =>
      unfold tok at *
      unfold txt at *
      dsimp only at HMK HRT hw0 c0 c1 c2 ⊢
      obtain ⟨S, hS⟩ : ∃ S, (⟨f.toArray⟩ : ByteArray) = S := ⟨_, rfl⟩
      simp only [hS] at HMK HRT hw0 c0 c1 c2 HK0 ⊢
      clear hS
      go_enter Tryd.func5, Tryd.ntmps5
      go_wp2_with fail
      refine (HMK.out _ (HT.out.below HB0.out) (HP.out.below HB0.out)).mono ?_
      rintro e w1 ⟨rfl, hb1⟩
      clear c0 c1 c2 hw0
      have HB1 := Lib.hid (bnext HB0.out hb1)
      have HK1 := Lib.hid (HK0.out.below hb1)
      clear hb1 HB0 HK0
      go_wp2_with fail
      refine (known16_c _ (HT.out.below HB1.out)).mono ?_
      rintro e w2 ⟨rfl, hb1⟩
      have HB2 := Lib.hid (bnext HB1.out hb1)
      have HK2 := Lib.hid (HK1.out.below hb1)
      clear hb1 HB1 HK1
      go_wp2_with fail
      refine (known16_c _ (HT.out.below HB2.out)).mono ?_
      rintro e w3 ⟨rfl, hb1⟩
      have HB3 := Lib.hid (bnext HB2.out hb1)
      obtain ⟨k0, k1, k2⟩ := blk3 (HK2.out.below hb1)
      clear hb1 HB2 HK2
      have HRT2 := Lib.hid (HRT.out w3 (HT.out.below HB3.out))
      go_wp2_with (go_at_call 11; refine HRT2.out.mono ?_; rintro e w5 ⟨rfl, hb1⟩; have HB5 := Lib.hid (bnext HB3.out hb1); clear hb1)
      go_ret
      exact ⟨ret_bool (by simp), HB5.out⟩
end Go.Proofs.YtjadginnaogjoaaDoor.sea
