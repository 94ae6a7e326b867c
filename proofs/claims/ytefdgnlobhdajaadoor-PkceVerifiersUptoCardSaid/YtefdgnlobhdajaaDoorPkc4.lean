/- The contracts of the reference's May, Challenge, Check. May: texts of at most 1048576 bytes. -/
import Derived.Test.YtefdgnlobhdajaaDoorPkc3
namespace Go.Proofs.YtefdgnlobhdajaaDoor.pkc
open Go.RowKit
open Go.Proofs.YtefdgnlobhdajaaDoor.oct Go.Proofs.YtefdgnlobhdajaaDoor.ref Go.Proofs.YtefdgnlobhdajaaDoor.rows Go.Proofs.YtefdgnlobhdajaaDoor.sha
open Go.Lib (byteCells)

/-- a text -/
def txt (l : T) : Value := .string ⟨l.toArray⟩
theorem rverT_c (l : T) (w : World) : Calls Tryd.prog 9 #[txt l] w fun e w' => e = .returned (.bool (verB l)) ∧ w = w' := rver_c ⟨l.toArray⟩ w
set_option maxRecDepth 100000 in
set_option maxHeartbeats 4000000 in
theorem rmay_c (c m : T) (w : World) (hc : c.length ≤ 1048576) :
    Calls Tryd.prog 11 #[txt c, txt m] w fun e w' => e = .returned (.bool (mayP c m)) ∧ Below w.heap.size w w' := by
  by_cases hp : m = plainM
  · have HR : Hid (mayP c m = verB c) := by show _ = _; unfold mayP; rw [if_pos hp]
    have HV := Lib.hid (rverT_c c w)
    obtain ⟨r, hr⟩ : ∃ r, mayP c m = r := ⟨_, rfl⟩
    rw [hr] at HR ⊢
    subst hp
    unfold txt plainM at *
    clear hr
    go_enter Tryd.func11, Tryd.ntmps11
    go_wp2_with (go_at_call 9; refine HV.out.mono ?_; rintro e w' ⟨rfl, rfl⟩)
    go_ret
    exact ⟨ret_bool HR.out.symm, Below.refl _ _⟩
  · have hb : (m == [112, 108, 97, 105, 110]) = false := by simpa using (show m ≠ [112, 108, 97, 105, 110] from hp)
    have HU := Lib.hid (runweb_c ⟨c.toArray⟩ w (by rw [show (⟨c.toArray⟩ : ByteArray).size = c.length from List.size_toArray]; exact hc))
    rw [show (⟨c.toArray⟩ : ByteArray).data.toList = c from rfl] at HU
    by_cases hm : m = hashM
    · have HR : Hid (mayP c m = mayS c) := by show _ = _; unfold mayP; rw [if_neg hp, decide_eq_true hm]; rfl
      obtain ⟨r, hr⟩ : ∃ r, mayP c m = r := ⟨_, rfl⟩
      rw [hr] at HR ⊢
      subst hm
      unfold txt hashM at *
      clear hr hp hb
      go_enter Tryd.func11, Tryd.ntmps11
      go_wp2_with fail
      refine HU.out.mono ?_
      rintro e w1 (⟨out, v, ho, rfl, hown, hb1⟩ | ⟨hno, rfl, hb1⟩)
      · obtain ⟨_, p, cp, rfl, _⟩ := own_in8 hown
        have hl32 : decide ((out.length : Int) = 32) = decide (out.length = 32) := by rw [Bool.eq_iff_iff, decide_eq_true_iff, decide_eq_true_iff]; omega
        have HS : Hid (r = decide (out.length = 32)) := by show _ = _; rw [HR.out, mayS_of ho]
        have HB := Lib.hid hb1
        clear hown hb1 ho HU
        by_cases h32 : out.length = 32
        · have HT : Hid (r = true) := by show _ = _; rw [HS.out, decide_eq_true h32]
          have i1 : ((out.length : Int) == 32) = true := by rw [beq_iff_eq]; omega
          clear hl32 h32
          go_wp2_with fail
          go_ret
          exact ⟨ret_bool HT.out.symm, HB.out⟩
        · have HT : Hid (r = false) := by show _ = _; rw [HS.out, decide_eq_false h32]
          have i1 : ((out.length : Int) == 32) = false := by rw [beq_eq_false_iff_ne]; omega
          clear hl32 h32
          go_wp2_with fail
          go_ret
          exact ⟨ret_bool HT.out.symm, HB.out⟩
      · have HT : Hid (r = false) := by show _ = _; rw [HR.out, mayS_none hno]
        have HB := Lib.hid hb1
        clear hb1 hno HU
        go_wp2_with fail
        go_ret
        exact ⟨ret_bool HT.out.symm, HB.out⟩
    · have hb2 : (m == [83, 50, 53, 54]) = false := by simpa using (show m ≠ [83, 50, 53, 54] from hm)
      have HR : Hid (mayP c m = false) := by show _ = _; unfold mayP; rw [if_neg hp, decide_eq_false hm]; rfl
      obtain ⟨r, hr⟩ : ∃ r, mayP c m = r := ⟨_, rfl⟩
      rw [hr] at HR ⊢
      unfold txt at *
      clear hr hp hm
      go_enter Tryd.func11, Tryd.ntmps11
      go_wp2_with fail
      refine HU.out.mono ?_
      rintro e w1 (⟨out, v, ho, rfl, hown, hb1⟩ | ⟨hno, rfl, hb1⟩)
      · have HB := Lib.hid hb1
        clear hb1 HU hown
        go_wp2_with fail
        go_ret
        exact ⟨ret_bool HR.out.symm, HB.out⟩
      · have HB := Lib.hid hb1
        clear hb1 HU
        go_wp2_with fail
        go_ret
        exact ⟨ret_bool HR.out.symm, HB.out⟩
end Go.Proofs.YtefdgnlobhdajaaDoor.pkc
