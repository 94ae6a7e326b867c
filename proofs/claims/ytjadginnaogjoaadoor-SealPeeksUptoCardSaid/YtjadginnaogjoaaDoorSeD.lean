/- The law SealTags: by a tag that isn't the head's nothing is opened. St; the secret and the tag within the reach. -/
import Derived.Test.YtjadginnaogjoaaDoorSeB
namespace Go.Proofs.YtjadginnaogjoaaDoor.sea
open Go.RowKit
open Go.Proofs.YtjadginnaogjoaaDoor.oct Go.Proofs.YtjadginnaogjoaaDoor.ref Go.Proofs.YtjadginnaogjoaaDoor.rows Go.Proofs.YtjadginnaogjoaaDoor.trn
open Go.Proofs.YtjadginnaogjoaaDoor.sha (Rm)
open Go.Proofs.YtjadginnaogjoaaDoor.jsn (intD)
open Go.Lib (byteCells)

theorem head_pts {t : Tk} (h : Rt t) : ptsA 0 (headT t) = [1, 2 + t.f.length, 3 + t.f.length + (intD t.n).length] := by
  have h1 := (ok_mk [] h).pts
  rw [(ok_mk [] h).e, ptsA_app, ptsA_no _ (tagT [] (headT t)) (webs_no46 (webs_web _)), List.append_nil] at h1
  exact h1
theorem headT_len2 (t : Tk) : (headT t).length = 4 + t.f.length + (intD t.n).length := by
  unfold headT
  simp only [List.length_cons, List.length_append, List.length_nil]
  omega
theorem ok_head {t u : Tk} {g g' : T} (h : Rt t) (hk : Ok (headT t ++ g) u g') : headT u = headT t ∧ g' = g := by
  have h1 := hk.pts
  rw [ptsA_app, head_pts h] at h1
  simp only [List.cons_append, List.nil_append, List.cons.injEq, true_and] at h1
  obtain ⟨h2, h3, _⟩ := h1
  have hl : (headT u).length = (headT t).length := by rw [headT_len2, headT_len2]; omega
  have he := hk.e
  obtain ⟨a1, a2⟩ := List.append_inj he hl.symm
  exact ⟨a1.symm, a2.symm⟩
theorem tags_pure {key : T} {t : Tk} {g : T} (h : Rt t) (hg : ¬ g = tagT key (headT t)) : outO key (headT t ++ g) = .inr 3 ∨ (outO key (headT t ++ g) = .inr 5 ∧ g.length = 16) := by
  cases hr : readP (headT t ++ g) with
  | none => exact Or.inl (outO_none hr)
  | some u =>
    obtain ⟨g', hk⟩ := readP_iff.1 hr
    obtain ⟨a1, a2⟩ := ok_head h hk
    have hl := hk.l
    have hd := hk.drop
    rw [a2] at hl hd
    refine Or.inr ⟨outO_no hr ?_, hl⟩
    rw [hd, a1]
    exact hg
set_option maxRecDepth 100000 in
set_option maxHeartbeats 8000000 in
theorem law_tags (p : Option Addr) (cp : Nat) (key : T) (t : Tk) (g : T) (w : World) (ht : St w) (hp : In8 w p key) (hk : key.length ≤ 140737488354000) (hn : Rm p cp key.length) (hgl : g.length ≤ 140737488351232) :
    Calls Tryd.prog 7 #[.slice p key.length cp, tok t, txt g] w fun e w' => e = .returned (.bool true) ∧ Below w.heap.size w w' := by
  have HT := Lib.hid ht
  have HP := Lib.hid hp
  have hguard := guard3
  obtain ⟨w0, hw0⟩ : ∃ w0, w.alloc (.cells #[.int .i64 t.k, txt t.f, .int .i64 t.n] 24) = w0 := ⟨_, rfl⟩
  have hK0 : Blk w0 w.heap.size 24 [.int .i64 t.k, txt t.f, .int .i64 t.n] := by rw [← hw0]; exact blk_new w _ _ _ rfl
  have hb0 : Below w.heap.size w w0 := by rw [← hw0]; exact (Below.refl _ w).alloc (Nat.le_refl _) _
  have HMK := Lib.hid (fun w h h2 => make_c p cp key t w h h2 hk hn)
  have HK0 := Lib.hid hK0
  have HB0 := Lib.hid hb0
  obtain ⟨c0, c1, c2⟩ := blk3 hK0
  clear hK0 hb0 ht hp
  by_cases hrt : Rt t
  · have e1 : mkE t = 0 := by unfold mkE; rw [if_pos hrt]
    have e2 : mkS key t = headT t ++ tagT key (headT t) := by unfold mkS; rw [if_pos hrt]
    have hhl := headT_len hrt
    have HOP := Lib.hid (fun w h h2 => open_c p cp key (headT t ++ g) w h h2 hk hn (by rw [List.length_append]; omega))
    have HTP := Lib.hid (fun hg => tags_pure (key := key) (g := g) hrt hg)
    have hyes : g = tagT key (headT t) → outO key (headT t ++ g) = .inl t := fun h => by rw [h, ← e2]; exact (mk_out key hrt).2
    have HYES := Lib.hid hyes
    rw [e1, e2] at HMK
    have heq := fun w => tok_eq t t w
    rw [tkB_iff.2 rfl] at heq
    have hxl := tag_len key (headT t)
    obtain ⟨H, hH⟩ : ∃ H, headT t = H := ⟨_, rfl⟩
    rw [hH] at hhl HOP HTP HYES HMK hxl
    obtain ⟨X, hX⟩ : ∃ X, tagT key H = X := ⟨_, rfl⟩
    rw [hX] at HTP HYES HMK hxl
    have hsz : (⟨(H ++ X).toArray⟩ : ByteArray).size = H.length + 16 := by rw [mk_sz, List.length_append, hxl]
    have x1 : (⟨(H ++ X).toArray⟩ : ByteArray).extract 0 H.length = ⟨H.toArray⟩ := by rw [ex_take, List.take_left' rfl]
    have x2 : (⟨(H ++ X).toArray⟩ : ByteArray).extract H.length (⟨(H ++ X).toArray⟩ : ByteArray).size = ⟨X.toArray⟩ := by rw [ex_drop, List.drop_left' rfl]
    have HAP : Hid (txt (H ++ g) = .string ((⟨H.toArray⟩ : ByteArray) ++ ⟨g.toArray⟩)) := by show _ = _; rw [ba_append]; rfl
    rw [HAP.out] at HOP
    obtain ⟨o, hoo⟩ : ∃ o, outO key (H ++ g) = o := ⟨_, rfl⟩
    rw [hoo] at HOP HTP HYES
    have n1 : ¬ (9223372036854775807 < H.length + g.length) := by omega
    clear e1 e2 hyes hrt hH hX hoo hk hn HAP hgl
    cases t with
    | mk k f n =>
      unfold tok at HMK heq
      unfold tok
      unfold txt at *
      dsimp only at HMK hw0 c0 c1 c2 heq ⊢
      obtain ⟨S, hS⟩ : ∃ S, (⟨f.toArray⟩ : ByteArray) = S := ⟨_, rfl⟩
      simp only [hS] at HMK hw0 c0 c1 c2 HK0 heq ⊢
      obtain ⟨M, hM⟩ : ∃ M, (⟨(H ++ X).toArray⟩ : ByteArray) = M := ⟨_, rfl⟩
      rw [hM] at HMK hsz x1 x2
      have i1 : (M.size : Int) - 16 = (H.length : Int) := by omega
      have i2 : wrap64 (H.length : Int) = (H.length : Int) := by unfold wrap64; omega
      have i3 : (0 : Int) ≤ (H.length : Int) := by omega
      have i4 : (H.length : Int) ≤ (M.size : Int) := by omega
      clear hM hsz hhl hxl
      go_enter Tryd.func7, Tryd.ntmps7
      go_wp2_with fail
      refine (HMK.out _ (HT.out.below HB0.out) (HP.out.below HB0.out)).mono ?_
      rintro e w1 ⟨rfl, hb1⟩
      clear c0 c1 c2 hw0
      have HB1 := Lib.hid (bnext HB0.out hb1)
      have HK1 := Lib.hid (HK0.out.below hb1)
      clear hb1 HB0 HK0
      go_wp2_with fail
      refine (known16_c _ (HT.out.below HB1.out)).mono ?_
      rintro e w2 ⟨rfl, hb1⟩
      have HB2 := Lib.hid (bnext HB1.out hb1)
      have HK2 := Lib.hid (HK1.out.below hb1)
      clear hb1 HB1 HK1
      go_wp2_with fail
      refine (HOP.out _ (HT.out.below HB2.out) (HP.out.below HB2.out)).mono ?_
      rintro e w3 ⟨rfl, hb1⟩
      clear HOP HMK
      by_cases hq : g = X
      · obtain rfl := HYES.out hq
        have hq2 : (g == X) = true := by simpa using hq
        clear HTP HYES hq
        unfold tokO errO tok txt
        dsimp only
        simp only [hS]
        clear hS
        obtain ⟨wa, wb, hv⟩ := var3 w3 (.int .i64 k) (.string S) (.int .i64 n)
        have ha := hv.a
        have hb := hv.s
        obtain ⟨d0, d1, d2⟩ := blk3 hv.zero
        obtain ⟨f0, f1, f2⟩ := frz3 hv.zero
        have HB3 := Lib.hid (bnext (bnext HB2.out hb1) hv.below)
        obtain ⟨k0, k1, k2⟩ := blk3 (HK2.out.below (bnext hb1 hv.below))
        obtain ⟨v0, v1, v2⟩ := blk3 hv.blk
        clear hv hb1 HB2 HK2
        go_wp2_with fail
        go_ret
        exact ⟨ret_bool (by simp), HB3.out⟩
      · have hq2 : (g == X) = false := by simpa using hq
        have h35 := HTP.out hq
        clear HTP HYES hq heq
        have heq := eq3 0 0 0 0 ⟨#[]⟩ ⟨#[]⟩
        rcases h35 with rfl | ⟨rfl, h16⟩
        · unfold tokO errO tok txt
          dsimp only
          obtain ⟨wa, wb, hv⟩ := var3 w3 (.int .i64 0) (.string ⟨#[]⟩) (.int .i64 0)
          have ha := hv.a
          have hb := hv.s
          obtain ⟨d0, d1, d2⟩ := blk3 hv.zero
          obtain ⟨f0, f1, f2⟩ := frz3 hv.zero
          have HB3 := Lib.hid (bnext (bnext HB2.out hb1) hv.below)
          obtain ⟨v0, v1, v2⟩ := blk3 hv.blk
          clear hv hb1 HB2 HK2
          go_wp2_with fail
          go_ret
          exact ⟨ret_bool (by simp), HB3.out⟩
        · unfold tokO errO tok txt
          dsimp only
          obtain ⟨wa, wb, hv⟩ := var3 w3 (.int .i64 0) (.string ⟨#[]⟩) (.int .i64 0)
          have ha := hv.a
          have hb := hv.s
          obtain ⟨d0, d1, d2⟩ := blk3 hv.zero
          obtain ⟨f0, f1, f2⟩ := frz3 hv.zero
          have HB3 := Lib.hid (bnext (bnext HB2.out hb1) hv.below)
          obtain ⟨v0, v1, v2⟩ := blk3 hv.blk
          clear hv hb1 HB2 HK2
          go_wp2_with fail
          go_ret
          exact ⟨ret_bool (by simp), HB3.out⟩
  · have e1 : mkE t = 1 := by unfold mkE; rw [if_neg hrt]
    rw [e1] at HMK
    obtain ⟨M, hM⟩ : ∃ M, mkS key t = M := ⟨_, rfl⟩
    rw [hM] at HMK
    clear e1 hrt hk hn hM
    cases t with
    | mk k f n =>
      unfold tok at *
      unfold txt at *
      dsimp only at HMK hw0 c0 c1 c2 ⊢
      obtain ⟨S, hS⟩ : ∃ S, (⟨f.toArray⟩ : ByteArray) = S := ⟨_, rfl⟩
      simp only [hS] at HMK hw0 c0 c1 c2 HK0 ⊢
      clear hS
      go_enter Tryd.func7, Tryd.ntmps7
      go_wp2_with fail
      refine (HMK.out _ (HT.out.below HB0.out) (HP.out.below HB0.out)).mono ?_
      rintro e w1 ⟨rfl, hb1⟩
      clear c0 c1 c2 hw0
      have HB1 := Lib.hid (bnext HB0.out hb1)
      clear hb1 HB0 HK0
      go_wp2_with fail
      refine (known16_c _ (HT.out.below HB1.out)).mono ?_
      rintro e w2 ⟨rfl, hb1⟩
      have HB2 := Lib.hid (bnext HB1.out hb1)
      clear hb1 HB1
      go_wp2_with fail
      refine (known16_c _ (HT.out.below HB2.out)).mono ?_
      rintro e w3 ⟨rfl, hb1⟩
      have HB3 := Lib.hid (bnext HB2.out hb1)
      clear hb1 HB2
      go_wp2_with fail
      go_ret
      exact ⟨ret_bool (by simp), HB3.out⟩
end Go.Proofs.YtjadginnaogjoaaDoor.sea
