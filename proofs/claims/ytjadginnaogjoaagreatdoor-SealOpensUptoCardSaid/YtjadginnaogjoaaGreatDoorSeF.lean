/- The reference's Head, Make. No condition beside the secret's reach. -/
import Derived.Test.YtjadginnaogjoaaGreatDoorSeE
import Derived.Test.YtjadginnaogjoaaGreatDoorJsn4
import Derived.Test.YtjadginnaogjoaaGreatDoorRefA
import Derived.Test.YtjadginnaogjoaaGreatDoorShaA
namespace Go.Proofs.YtjadginnaogjoaaGreatDoor.sea
open Go.RowKit
open Go.Proofs.YtjadginnaogjoaaGreatDoor.oct Go.Proofs.YtjadginnaogjoaaGreatDoor.ref Go.Proofs.YtjadginnaogjoaaGreatDoor.rows Go.Proofs.YtjadginnaogjoaaGreatDoor.trn
open Go.Proofs.YtjadginnaogjoaaGreatDoor.sha (Rm digest mac run_arr_to')
open Go.Proofs.YtjadginnaogjoaaGreatDoor.jsn (intD)
open Go.Lib (byteCells)

theorem head_txt2 (c : UInt8) (f d : T) : (⟨#[c, 46]⟩ : ByteArray) ++ ⟨f.toArray⟩ ++ ⟨#[46]⟩ ++ ⟨d.toArray⟩ ++ ⟨#[46]⟩ = ⟨(c :: 46 :: (f ++ 46 :: (d ++ [46]))).toArray⟩ := by
  have e : (⟨#[46]⟩ : ByteArray) = ⟨([46] : T).toArray⟩ := rfl
  have e2 : (⟨#[c, 46]⟩ : ByteArray) = ⟨([c, 46] : T).toArray⟩ := rfl
  rw [e, e2, ba_append, ba_append, ba_append, ba_append]
  simp
set_option maxRecDepth 100000 in
set_option maxHeartbeats 4000000 in
theorem rhead_c (t : Tk) (w : World) (hr : Rt t) :
    Calls Tryz.prog 29 #[tok t] w fun e w' => e = .returned (txt (headT t)) ∧ Below w.heap.size w w' := by
  have h1 := hr.k1
  have h3 := hr.k3
  cases t with
  | mk k f n =>
    simp only at h1 h3
    have hn0 : 0 ≤ n := hr.n0
    have hn1 : n ≤ 1099511627776 := hr.n1
    have HTX : Hid ((⟨#[letC k, 46]⟩ : ByteArray) ++ ⟨f.toArray⟩ ++ ⟨#[46]⟩ ++ ⟨(intD n).toArray⟩ ++ ⟨#[46]⟩ = ⟨(headT ⟨k, f, n⟩).toArray⟩) := head_txt2 (letC k) f (intD n)
    have z2 : (⟨f.toArray⟩ : ByteArray).size ≤ 32 := by rw [mk_sz]; exact hr.f32
    have z3 : (⟨(intD n).toArray⟩ : ByteArray).size ≤ 13 := by rw [mk_sz]; exact (dlen hn0 hn1).1
    have HDG := Lib.hid (fun w => jsn.digits_c n w (by omega) (by omega))
    unfold tok txt
    simp only
    obtain ⟨S, hS⟩ : ∃ S, (⟨f.toArray⟩ : ByteArray) = S := ⟨_, rfl⟩
    obtain ⟨D, hD⟩ : ∃ D, (⟨(intD n).toArray⟩ : ByteArray) = D := ⟨_, rfl⟩
    obtain ⟨R, hR⟩ : ∃ R, (⟨(headT ⟨k, f, n⟩).toArray⟩ : ByteArray) = R := ⟨_, rfl⟩
    rw [hS, hD, hR] at HTX
    rw [hD] at HDG z3
    rw [hS] at z2
    rw [hR, hS]
    obtain ⟨w1, hw1⟩ : ∃ w1, w.alloc (.cells #[.int .i64 k, .string S, .int .i64 n] 24) = w1 := ⟨_, rfl⟩
    have hb1 : Below w.heap.size w w1 := by rw [← hw1]; exact (Below.refl _ _).alloc (Nat.le_refl _) _
    have hB1 : Blk w1 w.heap.size 24 [.int .i64 k, .string S, .int .i64 n] := by rw [← hw1]; exact blk_new w _ _ _ rfl
    have e0 : ∀ y : After w1, y.v.cell? ⟨w.heap.size, 0, none⟩ = some (.int .i64 k) := fun y => (hB1.below y.below).cell 0
    have e1 : ∀ y : After w1, y.v.cell? ⟨w.heap.size, 1, none⟩ = some (.string S) := fun y => (hB1.below y.below).cell 1
    have e2 : ∀ y : After w1, y.v.cell? ⟨w.heap.size, 2, none⟩ = some (.int .i64 n) := fun y => (hB1.below y.below).cell 2
    obtain ⟨c0, c1, c2⟩ := blk3 hB1
    have CI : Hid (∀ y : After w1, Calls Tryz.prog 46 #[.int .i64 n] y.v fun e w'' => e = .returned (.string D) ∧ ∃ z : After w1, w'' = z.v) := Lib.hid fun y => after_of y (HDG.out y.v)
    have HB := Lib.hid hb1
    have n2 : ¬ (9223372036854775807 < 2 + S.size) := by omega
    have n3 : ¬ (9223372036854775807 < 2 + S.size + 1) := by omega
    have n4 : ¬ (9223372036854775807 < 2 + S.size + 1 + D.size) := by omega
    have n5 : ¬ (9223372036854775807 < 2 + S.size + 1 + D.size + 1) := by omega
    clear hS hD hR hB1 hb1 hr hn0 hn1 z2 z3 HDG
    have hk : k = 1 ∨ k = 2 ∨ k = 3 := by omega
    clear h1 h3
    rcases hk with rfl | rfl | rfl
    all_goals
      go_enter Tryz.func29, Tryz.ntmps29
      go_wp2_with fail
      try rw [hw1]
      clear hw1 c0 c1 c2
      refine wp_region_after (by kernel_rfl) (by kernel_rfl) ?_
      repeat (go_big_quiet_step (first
        | (rename_i y; go_at_call 46; with_reducible exact CI.out y)))
      refine wpQuiet_nil ?_
      rintro ⟨wq, hq⟩
      dsimp only
      have HQ := Lib.hid (bnext HB.out hq)
      clear hq e0 e1 e2
      go_wp2_with fail
      go_ret
      exact ⟨by rw [← HTX.out]; rfl, HQ.out⟩
theorem infoD3 : (Tryz.prog.info? 61).map (·.size) = some 32 := by kernel_rfl
set_option maxRecDepth 100000 in
set_option maxHeartbeats 8000000 in
theorem rmake_c (p : Option Addr) (cp : Nat) (key : T) (t : Tk) (w : World) (hp : In8 w p key) (hk : key.length ≤ 140737488354000) (hn : Rm p cp key.length) (hfl : t.f.length ≤ 9223372036854775806) :
    Calls Tryz.prog 14 #[.slice p key.length cp, tok t] w fun e w' => e = .returned (.tuple #[txt (mkS key t), .int .i64 (mkE t)]) ∧ Below w.heap.size w w' := by
  obtain ⟨w0, hw0⟩ : ∃ w0, w.alloc (.cells #[.int .i64 t.k, txt t.f, .int .i64 t.n] 24) = w0 := ⟨_, rfl⟩
  have hK0 : Blk w0 w.heap.size 24 [.int .i64 t.k, txt t.f, .int .i64 t.n] := by rw [← hw0]; exact blk_new w _ _ _ rfl
  have hb0 : Below w.heap.size w w0 := by rw [← hw0]; exact (Below.refl _ w).alloc (Nat.le_refl _) _
  have HR := Lib.hid (rright_c t w0 hfl)
  have HK0 := Lib.hid hK0
  have HB0 := Lib.hid hb0
  have HP := Lib.hid hp
  obtain ⟨c0, c1, c2⟩ := blk3 hK0
  clear hK0 hb0 hp hfl
  by_cases hrt : Rt t
  · have HS : Hid (mkS key t = headT t ++ tagT key (headT t)) := by show _ = _; unfold mkS; rw [if_pos hrt]
    have HE : Hid (mkE t = 0) := by show _ = _; unfold mkE; rw [if_pos hrt]
    have HHD := Lib.hid (fun w => rhead_c t w hrt)
    have HHL := Lib.hid (headT_len hrt)
    have HTL := Lib.hid (tag_len key (headT t))
    rw [decide_eq_true hrt] at HR
    obtain ⟨H, hH⟩ : ∃ H, headT t = H := ⟨_, rfl⟩
    rw [hH] at HS HHD HHL HTL
    have HTG : Hid (tagT key H = webT ((mac key H).take 12)) := rfl
    obtain ⟨X, hX⟩ : ∃ X, tagT key H = X := ⟨_, rfl⟩
    rw [hX] at HS HTL HTG
    have hdl := mac_len key H
    have HNL : Hid (32 = (byteCells (mac key H)).length) := by show _ = _; rw [byteCells_len, hdl]
    have HI : Hid ((Tryz.prog.info? 61).map (·.size) = some (byteCells (mac key H)).length) := by show _ = _; rw [byteCells_len, hdl]; exact infoD3
    have HO := Lib.hid (bytes_one (mac key H))
    have HTK : Hid (((mac key H).take 12).length = 12) := by show _ = _; rw [List.length_take, hdl]; rfl
    have HMC := Lib.hid (fun q cq w h h2 h3 => sha.rmac_c p cp key q cq H w h hk hn.1 h2 (by have := HHL.out; omega) h3)
    obtain ⟨M, hM⟩ : ∃ M, mac key H = M := ⟨_, rfl⟩
    rw [hM] at HTG HNL HI HO HTK HMC
    have har := fun (w : World) (b : Nat) => run_arr_to' (P := Tryz.prog) w 61 5 32 b 0 12 12 rfl Tryz.underlying61 infoBT (by decide)
    clear hrt hH hX hdl hM
    cases t with
    | mk k f n =>
      unfold tok at *
      unfold txt at *
      dsimp only at HR HHD hw0 c0 c1 c2 ⊢
      obtain ⟨S, hS⟩ : ∃ S, (⟨f.toArray⟩ : ByteArray) = S := ⟨_, rfl⟩
      simp only [hS] at HR HHD hw0 c0 c1 c2 HK0 ⊢
      clear hS
      have n1 : ¬ (9223372036854775807 < H.length + X.length) := by have := HHL.out; have := HTL.out; omega
      go_enter Tryz.func14, Tryz.ntmps14
      go_wp2_with fail
      refine HR.out.mono ?_
      rintro e w1 ⟨rfl, hb1⟩
      clear c0 c1 c2 hw0
      have HB1 := Lib.hid (bnext HB0.out hb1)
      have HK1 := Lib.hid (HK0.out.below hb1)
      obtain ⟨c0, c1, c2⟩ := blk3 HK1.out
      clear hb1 HB0 HK0
      go_wp2_with fail
      refine (HHD.out _).mono ?_
      rintro e w2 ⟨rfl, hb1⟩
      have HB2 := Lib.hid (bnext HB1.out hb1)
      obtain ⟨W, ch, hcv, h8, hcp, hbW⟩ := conv_row H w2
      have hbb := bnext HB2.out hbW
      have HMM := Lib.hid (HMC.out (some ⟨w2.heap.size, 0, none⟩) ch W (HP.out.below hbb) h8 (fun h => by cases h))
      have HBB := Lib.hid hbb
      clear hb1 HB1 HK1 c0 c1 c2 hbW hbb h8 hcp HMC HB2
      go_wp2_with fail
      refine HMM.out.mono ?_
      rintro e w3 ⟨rfl, hb1⟩
      have HB3 := Lib.hid (bnext HBB.out hb1)
      clear hb1 HBB HMM hcv
      go_wp2_with ((with_reducible refine wpList_store_new rfl 61 (.tmp 7) (.tmp 16) rfl (byteCells M) 61 _ rfl rfl HI.out (Eq.trans (by decide) HNL.out) HO.out ?_); intro w4 hS hSb hz; clear hz; have H8 := Lib.hid (in8_all hS); have hb2 := Lib.hid (bnext HB3.out hSb); clear hS hSb)
      have HWB := Lib.hid (rweb_c (some ⟨w3.heap.size, 0, none⟩) 32 (M.take 12) w4 (in8_pre H8.out 12) (by rw [HTK.out]; decide))
      rw [HTK.out, ← HTG.out] at HWB
      refine HWB.out.mono ?_
      rintro e w5 ⟨rfl, hb3⟩
      have HB5 := Lib.hid (bnext hb2.out hb3)
      clear hb3 hb2 HWB H8
      go_wp2_with fail
      go_ret2
      exact ⟨by rw [HS.out, HE.out, ← ba_append]; rfl, HB5.out⟩
  · have HS : Hid (mkS key t = []) := by show _ = _; unfold mkS; rw [if_neg hrt]
    have HE : Hid (mkE t = 1) := by show _ = _; unfold mkE; rw [if_neg hrt]
    rw [decide_eq_false hrt] at HR
    clear hrt
    cases t with
    | mk k f n =>
      unfold tok at *
      unfold txt at *
      dsimp only at HR hw0 c0 c1 c2 ⊢
      obtain ⟨S, hS⟩ : ∃ S, (⟨f.toArray⟩ : ByteArray) = S := ⟨_, rfl⟩
      simp only [hS] at HR hw0 c0 c1 c2 ⊢
      clear hS
      go_enter Tryz.func14, Tryz.ntmps14
      go_wp2_with fail
      refine HR.out.mono ?_
      rintro e w1 ⟨rfl, hb1⟩
      clear c0 c1 c2 hw0
      have HB1 := Lib.hid (bnext HB0.out hb1)
      clear hb1 HB0 HK0
      go_wp2_with fail
      go_ret2
      exact ⟨by rw [HS.out, HE.out]; rfl, HB1.out⟩
end Go.Proofs.YtjadginnaogjoaaGreatDoor.sea
