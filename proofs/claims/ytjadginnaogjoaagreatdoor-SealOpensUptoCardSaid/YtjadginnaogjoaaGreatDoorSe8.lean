/- The developers' Make. St; the secret within the reach. -/
import Derived.Test.YtjadginnaogjoaaGreatDoorSe7
namespace Go.Proofs.YtjadginnaogjoaaGreatDoor.sea
open Go.RowKit
open Go.Proofs.YtjadginnaogjoaaGreatDoor.oct Go.Proofs.YtjadginnaogjoaaGreatDoor.ref Go.Proofs.YtjadginnaogjoaaGreatDoor.rows Go.Proofs.YtjadginnaogjoaaGreatDoor.trn
open Go.Proofs.YtjadginnaogjoaaGreatDoor.sha (Rm)
open Go.Lib (byteCells)

def mkS (k : T) (t : Tk) : T := if Rt t then headT t ++ tagT k (headT t) else []
def mkE (t : Tk) : Int := if Rt t then 0 else 1
set_option maxRecDepth 100000 in
set_option maxHeartbeats 8000000 in
theorem make_c (p : Option Addr) (cp : Nat) (key : T) (t : Tk) (w : World) (ht : St w) (hp : In8 w p key) (hk : key.length ≤ 140737488354000) (hn : Rm p cp key.length) :
    Calls Tryz.prog 16 #[.slice p key.length cp, tok t] w fun e w' => e = .returned (.tuple #[txt (mkS key t), .int .i64 (mkE t)]) ∧ Below w.heap.size w w' := by
  obtain ⟨w0, hw0⟩ : ∃ w0, w.alloc (.cells #[.int .i64 t.k, txt t.f, .int .i64 t.n] 24) = w0 := ⟨_, rfl⟩
  have hK0 : Blk w0 w.heap.size 24 [.int .i64 t.k, txt t.f, .int .i64 t.n] := by rw [← hw0]; exact blk_new w _ _ _ rfl
  have hb0 : Below w.heap.size w w0 := by rw [← hw0]; exact (Below.refl _ w).alloc (Nat.le_refl _) _
  have HR := Lib.hid (right_c t w0 (ht.below hb0))
  have HK0 := Lib.hid hK0
  have HB0 := Lib.hid hb0
  have HT := Lib.hid ht
  have HP := Lib.hid hp
  obtain ⟨c0, c1, c2⟩ := blk3 hK0
  clear hK0 hb0 ht hp
  by_cases hrt : Rt t
  · have HS : Hid (mkS key t = headT t ++ tagT key (headT t)) := by show _ = _; unfold mkS; rw [if_pos hrt]
    have HE : Hid (mkE t = 0) := by show _ = _; unfold mkE; rw [if_pos hrt]
    have HHD := Lib.hid (fun w h => headOf_c t w hrt h)
    have HHL := Lib.hid (headT_len hrt)
    have HTL := Lib.hid (tag_len key (headT t))
    have HTG := Lib.hid (fun w h h2 => tagOf_c p cp key (headT t) w h h2 hk hn (by have := headT_len hrt; omega))
    rw [decide_eq_true hrt] at HR
    obtain ⟨H, hH⟩ : ∃ H, headT t = H := ⟨_, rfl⟩
    rw [hH] at HS HHD HTG HHL HTL
    obtain ⟨X, hX⟩ : ∃ X, tagT key H = X := ⟨_, rfl⟩
    rw [hX] at HS HTG HTL
    clear hrt hH hX
    cases t with
    | mk k f n =>
      unfold tok at *
      unfold txt at *
      dsimp only at HR HHD hw0 c0 c1 c2 ⊢
      obtain ⟨S, hS⟩ : ∃ S, (⟨f.toArray⟩ : ByteArray) = S := ⟨_, rfl⟩
      simp only [hS] at HR HHD hw0 c0 c1 c2 HK0 ⊢
      clear hS
      have n1 : ¬ (9223372036854775807 < H.length + X.length) := by have := HHL.out; have := HTL.out; omega
      go_enter Tryz.func16, Tryz.ntmps16
      go_wp2_with fail
      refine HR.out.mono ?_
      rintro e w1 ⟨rfl, hb1⟩
      clear c0 c1 c2 hw0
      have HB1 := Lib.hid (bnext HB0.out hb1)
      have HK1 := Lib.hid (HK0.out.below hb1)
      obtain ⟨c0, c1, c2⟩ := blk3 HK1.out
      clear hb1 HB0 HK0
      go_wp2_with fail
      refine (HHD.out _ (HT.out.below HB1.out)).mono ?_
      rintro e w2 ⟨rfl, hb1⟩
      have HB2 := Lib.hid (bnext HB1.out hb1)
      clear hb1 HB1 HK1 c0 c1 c2
      go_wp2_with fail
      refine (HTG.out _ (HT.out.below HB2.out) (HP.out.below HB2.out)).mono ?_
      rintro e w3 ⟨rfl, hb1⟩
      have HB3 := Lib.hid (bnext HB2.out hb1)
      clear hb1 HB2
      go_wp2_with fail
      go_ret2
      exact ⟨by rw [HS.out, HE.out, ← ba_append]; rfl, HB3.out⟩
  · have HS : Hid (mkS key t = []) := by show _ = _; unfold mkS; rw [if_neg hrt]
    have HE : Hid (mkE t = 1) := by show _ = _; unfold mkE; rw [if_neg hrt]
    rw [decide_eq_false hrt] at HR
    clear hrt
    cases t with
    | mk k f n =>
      unfold tok at *
      unfold txt at *
      dsimp only at HR hw0 c0 c1 c2 ⊢
      obtain ⟨S, hS⟩ : ∃ S, (⟨f.toArray⟩ : ByteArray) = S := ⟨_, rfl⟩
      simp only [hS] at HR hw0 c0 c1 c2 ⊢
      clear hS
      go_enter Tryz.func16, Tryz.ntmps16
      go_wp2_with fail
      refine HR.out.mono ?_
      rintro e w1 ⟨rfl, hb1⟩
      clear c0 c1 c2 hw0
      have HB1 := Lib.hid (bnext HB0.out hb1)
      clear hb1 HB0 HK0
      go_wp2_with fail
      go_ret2
      exact ⟨by rw [HS.out, HE.out]; rfl, HB1.out⟩
end Go.Proofs.YtjadginnaogjoaaGreatDoor.sea
