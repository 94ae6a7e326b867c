/- The reference's Open; the law SealOpens, for texts of at most 1048576 bytes; its card's shape. St. -/
import Derived.Test.YtjadginnaogjoaaGreatDoorSeI
import Derived.Test.YtjadginnaogjoaaGreatDoorSeOp
namespace Go.Proofs.YtjadginnaogjoaaGreatDoor.sea
open Go.RowKit
open Go.Proofs.YtjadginnaogjoaaGreatDoor.oct Go.Proofs.YtjadginnaogjoaaGreatDoor.ref Go.Proofs.YtjadginnaogjoaaGreatDoor.rows Go.Proofs.YtjadginnaogjoaaGreatDoor.trn
open Go.Proofs.YtjadginnaogjoaaGreatDoor.sha (Rm)
open Go.Lib (byteCells)

theorem mk_iff {key s : T} {t : Tk} (h : readP s = some t) : mkS key t = s ↔ s.drop (s.length - 16) = tagT key (headT t) := by
  obtain ⟨g, hg⟩ := readP_iff.1 h
  rw [hg.drop]
  unfold mkS
  rw [if_pos hg.r]
  constructor
  · intro e
    rw [hg.e] at e
    exact (List.append_cancel_left e).symm
  · intro e
    rw [← e]
    exact hg.e.symm
theorem read_fam {s : T} {t : Tk} (h : readP s = some t) : t.f.length ≤ 32 := by
  obtain ⟨g, hg⟩ := readP_iff.1 h
  exact hg.r.f32
set_option maxRecDepth 100000 in
set_option maxHeartbeats 8000000 in
theorem ropen_c (p : Option Addr) (cp : Nat) (key s : T) (w : World) (hp : In8 w p key) (hk : key.length ≤ 140737488354000) (hn : Rm p cp key.length) (hs : s.length ≤ 1048576) :
    Calls Tryz.prog 5 #[.slice p key.length cp, txt s] w fun e w' => e = .returned (.tuple #[tok (tokO (outO key s)), .int .i64 (errO (outO key s))]) ∧ Below w.heap.size w w' := by
  obtain ⟨w0, hw0⟩ : ∃ w0, w.alloc (.cells #[.int .i64 0, .string ⟨#[]⟩, .int .i64 0] 24) = w0 := ⟨_, rfl⟩
  have hK0 : Blk w0 w.heap.size 24 [.int .i64 0, .string ⟨#[]⟩, .int .i64 0] := by rw [← hw0]; exact blk_new w _ _ _ rfl
  have hb0 : Below w.heap.size w w0 := by rw [← hw0]; exact (Below.refl _ w).alloc (Nat.le_refl _) _
  have HK := Lib.hid hK0
  have HB := Lib.hid hb0
  have HP := Lib.hid hp
  have HPK := Lib.hid (fun w => rpeek_c s w hs)
  clear hK0 hb0 hp hs
  cases hr : readP s with
  | none =>
    have HN := Lib.hid (outO_none (k := key) hr)
    rw [outP_none hr] at HPK
    clear hr hk hn
    unfold tok txt tokO errO at HPK
    unfold txt
    dsimp only at HPK
    go_enter Tryz.func5, Tryz.ntmps5
    go_wp2_with fail
    try rw [hw0]
    clear hw0
    refine (HPK.out _).mono ?_
    rintro e w1 ⟨rfl, hb1⟩
    obtain ⟨wa, wb, hv⟩ := var3 w1 (.int .i64 0) (.string ⟨#[]⟩) (.int .i64 0)
    have ha := hv.a
    have hb := hv.s
    obtain ⟨d0, d1, d2⟩ := blk3 hv.zero
    obtain ⟨u0, u1, u2⟩ := frz3 hv.zero
    have hrdy := Rdy.mk2 HK.out HB.out (bnext hb1 hv.below)
    have HKF := Lib.hid hrdy.k
    have HBF := Lib.hid hrdy.b
    have c0 := hrdy.c0
    have c1 := hrdy.c1
    have c2 := hrdy.c2
    have f0 := hrdy.f0
    have f1 := hrdy.f1
    have f2 := hrdy.f2
    clear hv hb1 hrdy HPK
    go_wp2_with fail
    refine bodyPost_ret (results_bt Tryz.results5 _ _ w.heap.size 24 _ (.int .i64 3) rfl rfl (HKF.out _ _ _) Tryz.underlying24 rfl infoTk) rfl ?_
    exact ⟨by rw [HN.out]; rfl, HBF.out _ _ _⟩
  | some t =>
    have HMK := Lib.hid (fun w h => rmake_c p cp key t w h hk hn (by have := read_fam hr; omega))
    have hiff := mk_iff (key := key) hr
    have HOY := Lib.hid (fun h => outO_yes (k := key) hr (hiff.1 h))
    have HON := Lib.hid (fun (h : ¬ mkS key t = s) => outO_no (k := key) hr (fun e => h (hiff.2 e)))
    rw [outP_some hr] at HPK
    obtain ⟨M, hM⟩ : ∃ M, mkS key t = M := ⟨_, rfl⟩
    obtain ⟨E, hE⟩ : ∃ E, mkE t = E := ⟨_, rfl⟩
    rw [hM] at HMK HOY HON
    rw [hE] at HMK
    clear hr hk hn hiff hM hE
    unfold tokO errO at HPK
    dsimp only at HPK
    cases t with
    | mk k f n =>
      unfold tok txt at HPK HMK
      dsimp only at HPK HMK
      unfold txt
      obtain ⟨S, hS⟩ : ∃ S, (⟨f.toArray⟩ : ByteArray) = S := ⟨_, rfl⟩
      simp only [hS] at HPK HMK
      have HS := Lib.hid hS
      clear hS
      by_cases hq : M = s
      · have HN := Lib.hid (HOY.out hq)
        have qm : (M == s) = true := by simpa using hq
        clear hq HOY HON
        go_enter Tryz.func5, Tryz.ntmps5
        go_wp2_with fail
        try rw [hw0]
        clear hw0
        refine (HPK.out _).mono ?_
        rintro e w1 ⟨rfl, hb1⟩
        obtain ⟨wa, wb, hv⟩ := var3 w1 (.int .i64 k) (.string S) (.int .i64 n)
        have ha := hv.a
        have hb := hv.s
        obtain ⟨d0, d1, d2⟩ := blk3 hv.zero
        obtain ⟨u0, u1, u2⟩ := frz3 hv.zero
        obtain ⟨v0, v1, v2⟩ := blk3 hv.blk
        have HV := Lib.hid hv.blk
        have HB1 := Lib.hid (bnext hb1 hv.below)
        clear hv hb1
        go_wp2_with fail
        clear ha hb d0 d1 d2 u0 u1 u2 v0 v1 v2
        refine (HMK.out _ (HP.out.below (bnext HB.out HB1.out))).mono ?_
        rintro e w2 ⟨rfl, hb2⟩
        obtain ⟨v0, v1, v2⟩ := blk3 (HV.out.below hb2)
        have hrdy := Rdy.mk2 HK.out HB.out (bnext HB1.out hb2)
        have HKF := Lib.hid hrdy.k
        have HBF := Lib.hid hrdy.b
        have c0 := hrdy.c0
        have c1 := hrdy.c1
        have c2 := hrdy.c2
        have f0 := hrdy.f0
        have f1 := hrdy.f1
        have f2 := hrdy.f2
        clear hb2 hrdy HPK HMK HV HB1
        go_wp2_with fail
        refine bodyPost_ret (results_bt Tryz.results5 _ _ w.heap.size 24 _ (.int .i64 0) rfl rfl (HKF.out _ _ _) Tryz.underlying24 rfl infoTk) rfl ?_
        exact ⟨by rw [HN.out, ← HS.out]; rfl, HBF.out _ _ _⟩
      · have HN := Lib.hid (HON.out hq)
        have qm : (M == s) = false := by simpa using hq
        clear hq HOY HON
        go_enter Tryz.func5, Tryz.ntmps5
        go_wp2_with fail
        try rw [hw0]
        clear hw0
        refine (HPK.out _).mono ?_
        rintro e w1 ⟨rfl, hb1⟩
        obtain ⟨wa, wb, hv⟩ := var3 w1 (.int .i64 k) (.string S) (.int .i64 n)
        have ha := hv.a
        have hb := hv.s
        obtain ⟨d0, d1, d2⟩ := blk3 hv.zero
        obtain ⟨u0, u1, u2⟩ := frz3 hv.zero
        obtain ⟨v0, v1, v2⟩ := blk3 hv.blk
        have HB1 := Lib.hid (bnext hb1 hv.below)
        clear hv hb1
        go_wp2_with fail
        clear ha hb d0 d1 d2 u0 u1 u2 v0 v1 v2
        refine (HMK.out _ (HP.out.below (bnext HB.out HB1.out))).mono ?_
        rintro e w2 ⟨rfl, hb2⟩
        have hrdy := Rdy.mk2 HK.out HB.out (bnext HB1.out hb2)
        have HKF := Lib.hid hrdy.k
        have HBF := Lib.hid hrdy.b
        have c0 := hrdy.c0
        have c1 := hrdy.c1
        have c2 := hrdy.c2
        have f0 := hrdy.f0
        have f1 := hrdy.f1
        have f2 := hrdy.f2
        clear hb2 hrdy HPK HMK HB1
        go_wp2_with fail
        refine bodyPost_ret (results_bt Tryz.results5 _ _ w.heap.size 24 _ (.int .i64 5) rfl rfl (HKF.out _ _ _) Tryz.underlying24 rfl infoTk) rfl ?_
        exact ⟨by rw [HN.out]; rfl, HBF.out _ _ _⟩
set_option maxRecDepth 100000 in
set_option maxHeartbeats 8000000 in
theorem law_opens (p : Option Addr) (cp : Nat) (key s : T) (w : World) (ht : St w) (hp : In8 w p key) (hk : key.length ≤ 140737488354000) (hn : Rm p cp key.length) (hs : s.length ≤ 1048576) :
    Calls Tryz.prog 3 #[.slice p key.length cp, txt s] w fun e w' => e = .returned (.bool true) ∧ Below w.heap.size w w' := by
  have HT := Lib.hid ht
  have HP := Lib.hid hp
  have HP1 := Lib.hid (fun w h h2 => open_c p cp key s w h h2 hk hn (by omega))
  have HP2 := Lib.hid (fun w h => ropen_c p cp key s w h hk hn hs)
  have hguard := guard3
  obtain ⟨t, htk⟩ : ∃ t, tokO (outO key s) = t := ⟨_, rfl⟩
  obtain ⟨er, her⟩ : ∃ er, errO (outO key s) = er := ⟨_, rfl⟩
  rw [htk, her] at HP1 HP2
  clear ht hp htk her hs hk hn
  cases t with
  | mk k f n =>
    unfold tok at HP1 HP2
    unfold txt at *
    dsimp only at HP1 HP2
    obtain ⟨S, hS⟩ : ∃ S, (⟨f.toArray⟩ : ByteArray) = S := ⟨_, rfl⟩
    simp only [hS] at HP1 HP2
    clear hS
    have heq := eq3 k n k n S S
    go_enter Tryz.func3, Tryz.ntmps3
    go_wp2_with fail
    refine (HP1.out _ HT.out HP.out).mono ?_
    rintro e w1 ⟨rfl, hb1⟩
    obtain ⟨wa, wb, hv⟩ := var3 w1 (.int .i64 k) (.string S) (.int .i64 n)
    have ha := hv.a
    have hb := hv.s
    obtain ⟨d0, d1, d2⟩ := blk3 hv.zero
    obtain ⟨f0, f1, f2⟩ := frz3 hv.zero
    have HB1 := Lib.hid (bnext hb1 hv.below)
    have HK1 := Lib.hid hv.blk
    clear hv hb1
    go_wp2_with fail
    clear ha hb d0 d1 d2 f0 f1 f2
    refine (HP2.out _ (HP.out.below HB1.out)).mono ?_
    rintro e w2 ⟨rfl, hb1⟩
    obtain ⟨wc, wd, hv⟩ := var3 w2 (.int .i64 k) (.string S) (.int .i64 n)
    have ha := hv.a
    have hb := hv.s
    obtain ⟨d0, d1, d2⟩ := blk3 hv.zero
    obtain ⟨f0, f1, f2⟩ := frz3 hv.zero
    have HB2 := Lib.hid (bnext (bnext HB1.out hb1) hv.below)
    have HK2 := Lib.hid (HK1.out.below (bnext hb1 hv.below))
    have HV2 := Lib.hid hv.blk
    clear hv hb1 HB1 HK1
    go_wp2_with fail
    clear ha hb d0 d1 d2 f0 f1 f2
    refine (known16_c _ (HT.out.below HB2.out)).mono ?_
    rintro e w3 ⟨rfl, hb1⟩
    have HB3 := Lib.hid (bnext HB2.out hb1)
    obtain ⟨d0, d1, d2⟩ := blk3 (HK2.out.below hb1)
    obtain ⟨v0, v1, v2⟩ := blk3 (HV2.out.below hb1)
    clear hb1 HB2 HK2 HV2
    go_wp2_with fail
    go_ret
    exact ⟨ret_bool (by simp), HB3.out⟩
theorem g_opens (p : Option Addr) (cp : Nat) (key : T) (s : ByteArray) (w : World) (hp : In8 w p key) (hk : key.length ≤ 1048576) (hn : (p = none → cp = 0) ∧ key.length ≤ cp) (hs : s.size ≤ 1048576) (ht : St w) :
    Calls Tryz.prog 3 #[.slice p key.length cp, .string s] w fun e w' => e = .returned (.bool true) ∧ Below w.heap.size w w' := by
  have h := law_opens p cp key s.data.toList w ht hp (by omega) hn (by rw [sz_of]; exact hs)
  rw [txt_of] at h
  exact h
end Go.Proofs.YtjadginnaogjoaaGreatDoor.sea
