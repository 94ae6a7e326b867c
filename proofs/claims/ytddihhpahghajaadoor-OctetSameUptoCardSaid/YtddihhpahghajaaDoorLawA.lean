/- OctetLengths, OctetSame, OctetBack: the walks of the laws (rows up to 1048576 bytes). -/
import Derived.Test.YtddihhpahghajaaDoorOct11
import Derived.WalkSmall
namespace Go.Proofs.YtddihhpahghajaaDoor.lawA
open Go.RowKit
open Go.Proofs.YtddihhpahghajaaDoor.pl Go.Proofs.YtddihhpahghajaaDoor.oct
open Go.Lib (byteCells)

set_option maxHeartbeats 1000000 in
theorem lengths (p : Option Addr) (cp : Nat) (l : List UInt8) (w : World) (hp : In8 w p l) (hl : l.length ≤ 1048576) :
    Calls Tryd.prog 11 #[.slice p l.length cp] w fun e w' => e = .returned (.bool true) ∧ Below w.heap.size w w' := by
  have HP := Lib.hid hp
  have e1 : ((hexT l).length : Int) = 2 * (l.length : Int) := by rw [hexT_len]; omega
  have e2 : ((webT l).length : Int) = (4 * (l.length : Int) + 2) / 3 := by rw [webT_len]; omega
  have e3 : ((basT l).length : Int) = ((l.length : Int) + 2) / 3 * 4 := by rw [basT_len]; omega
  obtain ⟨hx, hhx⟩ : ∃ x, hexT l = x := ⟨_, rfl⟩
  obtain ⟨wx, hwx⟩ : ∃ x, webT l = x := ⟨_, rfl⟩
  obtain ⟨bx, hbx⟩ : ∃ x, basT l = x := ⟨_, rfl⟩
  have HX : Hid (hexT l = hx ∧ webT l = wx ∧ basT l = bx) := ⟨hhx, hwx, hbx⟩
  rw [hhx] at e1
  rw [hwx] at e2
  rw [hbx] at e3
  have t1 : ((hx.length : Int) == 2 * (l.length : Int)) = true := by rw [beq_iff_eq]; exact e1
  have t2 : ((wx.length : Int) == (4 * (l.length : Int) + 2) / 3) = true := by rw [beq_iff_eq]; exact e2
  have t3 : ((bx.length : Int) == ((l.length : Int) + 2) / 3 * 4) = true := by rw [beq_iff_eq]; exact e3
  clear hp hhx hwx hbx e1 e2 e3
  go_enter Tryd.func11, Tryd.ntmps11
  go_wp2_with (first
    | (go_at_call 15; refine (known_c _).mono ?_; rintro e w1 ⟨rfl, hb1⟩; have q1 := HP.out.below hb1)
    | (go_at_call 16; refine (hex_c p cp l _ q1 (by omega)).mono ?_; rintro e w2 ⟨rfl, hb2⟩; rw [HX.out.1]; have q2 := q1.below hb2)
    | (go_at_call 21; refine (web_c p cp l _ q2 (by omega)).mono ?_; rintro e w3 ⟨rfl, hb3⟩; rw [HX.out.2.1]; have q3 := q2.below hb3)
    | (go_at_call 25; refine (bas_c p cp l _ q3 (by omega)).mono ?_; rintro e w4 ⟨rfl, hb4⟩; rw [HX.out.2.2]))
  go_ret
  exact ⟨rfl, bnext (bnext (bnext hb1 hb2) hb3) hb4⟩

set_option maxHeartbeats 1000000 in
theorem same (p : Option Addr) (cp : Nat) (l : List UInt8) (q : Option Addr) (cq : Nat) (m : List UInt8) (w : World) (hp : In8 w p l) (hl : l.length ≤ 1048576) (hq : In8 w q m) (hm : m.length ≤ 1048576) :
    Calls Tryd.prog 13 #[.slice p l.length cp, .slice q m.length cq] w fun e w' => e = .returned (.bool true) ∧ Below w.heap.size w w' := by
  have HP := Lib.hid hp
  have HQ := Lib.hid hq
  clear hp hq
  obtain ⟨D, hD⟩ : ∃ D, decide (l = m) = D := ⟨_, rfl⟩
  obtain ⟨wl, hwl⟩ : ∃ x, webT l = x := ⟨_, rfl⟩
  obtain ⟨wm, hwm⟩ : ∃ x, webT m = x := ⟨_, rfl⟩
  have HW : Hid (webT l = wl ∧ webT m = wm ∧ decide (l = m) = D) := ⟨hwl, hwm, hD⟩
  have HL : Hid (decide (l = l) = true) := by show _ = _; simp
  have hDw : (wl == wm) = D := by
    rw [← hD, ← hwl, ← hwm, Bool.eq_iff_iff, beq_iff_eq, decide_eq_true_iff]
    constructor
    · intro h; exact webT_inj h
    · intro h; rw [h]
  clear hwl hwm hD
  go_enter Tryd.func13, Tryd.ntmps13
  go_wp2_with (go_at_call 15; refine (known_c _).mono ?_; rintro e w1 ⟨rfl, hb1⟩; have q1 := HP.out.below hb1; have r1 := HQ.out.below hb1)
  refine (same_c p q cp cq l m _ q1 r1 (by omega)).mono ?_
  rintro e w2 ⟨rfl, rfl⟩
  rw [HW.out.2.2]
  go_wp2_with fail
  refine (rsame_c p q cp cq l m _ q1 r1 (by omega)).mono ?_
  rintro e w2 ⟨rfl, nd, rfl⟩
  rw [HW.out.2.2]
  have q2 : In8 (w1.drewN nd) p l := q1
  have r2 : In8 (w1.drewN nd) q m := r1
  go_wp2_with fail
  refine (same_c p q cp cq l m _ q2 r2 (by omega)).mono ?_
  rintro e w2 ⟨rfl, rfl⟩
  rw [HW.out.2.2]
  go_wp2_with fail
  refine (web_c p cp l _ q2 (by omega)).mono ?_
  rintro e w3 ⟨rfl, hb3⟩
  rw [HW.out.1]
  have r3 := r2.below hb3
  have q3 := q2.below hb3
  go_wp2_with fail
  refine (web_c q cq m _ r3 (by omega)).mono ?_
  rintro e w4 ⟨rfl, hb4⟩
  rw [HW.out.2.1]
  have q4 := q3.below hb4
  go_wp2_with fail
  refine (same_c p p cp cp l l _ q4 q4 (by omega)).mono ?_
  rintro e w5 ⟨rfl, rfl⟩
  go_wp2_with fail
  go_ret
  exact ⟨rfl, bnext hb1 (bnext (below_drewN (Below.refl _ _) nd) (bnext hb3 hb4))⟩
end Go.Proofs.YtddihhpahghajaaDoor.lawA
