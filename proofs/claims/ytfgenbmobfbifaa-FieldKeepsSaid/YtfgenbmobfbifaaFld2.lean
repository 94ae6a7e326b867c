/- The contracts of the reference's sign, itself, worth. No condition. -/
import Derived.Test.YtfgenbmobfbifaaFld1
import Derived.Test.YtfgenbmobfbifaaMem
import Derived.BigGuardPart
namespace Go.Proofs.Ytfgenbmobfbifaa.fld
open Go.RowKit
open Go.Proofs.Ytfgenbmobfbifaa.oct Go.Proofs.Ytfgenbmobfbifaa.ref
open Go.Lib (byteCells)

theorem sg_nat : ∀ n, n < 16 → (sg n).toNat = if n < 10 then 48 + n else 55 + n := by decide
set_option maxHeartbeats 400000 in
theorem sign_c (n : Nat) (hn : n < 16) (w : World) : Calls Try.prog 29 #[.int .i64 n] w fun e w' => e = .returned (.int .u8 ((sg n).toNat : Int)) ∧ w = w' := by
  have HS := Lib.hid (sg_nat n hn)
  by_cases h : n < 10
  · have HV : Hid (48 + (n : Int) = ((sg n).toNat : Int)) := by show _ = _; rw [HS.out, if_pos h]; omega
    go_enter Try.func29, Try.ntmps29
    go_wp2_with fail
    go_ret
    exact ⟨ret_int HV.out, rfl⟩
  · have HV : Hid (55 + (n : Int) = ((sg n).toNat : Int)) := by show _ = _; rw [HS.out, if_neg h]; omega
    go_enter Try.func29, Try.ntmps29
    go_wp2_with fail
    go_ret
    exact ⟨ret_int HV.out, rfl⟩
set_option maxRecDepth 100000 in
set_option maxHeartbeats 1000000 in
theorem itself_c (c : UInt8) (w : World) : Calls Try.prog 28 #[.int .u8 (c.toNat : Int)] w fun e w' => e = .returned (.bool (itself c)) ∧ w = w' := by
  have hc := c.toNat_lt
  have HI : Hid (itself c = ((decide (64 < c.toNat) && decide (c.toNat < 91)) || (decide (96 < c.toNat) && decide (c.toNat < 123)) || (decide (47 < c.toNat) && decide (c.toNat < 58)) || decide (c.toNat = 42) || decide (c.toNat = 45) || decide (c.toNat = 46) || decide (c.toNat = 95))) := rfl
  obtain ⟨n, hn⟩ : ∃ n, c.toNat = n := ⟨_, rfl⟩
  rw [hn] at hc HI ⊢
  clear hn
  go_enter Try.func28, Try.ntmps28
  go_wp2_with fail
  all_goals
    go_ret
    refine ⟨ret_bool ?_, rfl⟩
    rw [HI.out, Bool.eq_iff_iff]
    simp only [Bool.or_eq_true, Bool.and_eq_true, decide_eq_true_eq, beq_iff_eq, true_iff]
    omega

theorem worth_eq (c : UInt8) (n : Nat) (hn : n < 16) : worth c = n ↔ ((sg n).toNat = c.toNat ∨ (9 < n ∧ 87 + n = c.toNat)) := by
  rw [sg_nat n hn]
  unfold worth
  have := c.toNat_lt
  by_cases h : n < 10
  · rw [if_pos h]; constructor <;> (intro h2; (repeat' split at h2) <;> (try split) <;> (try split) <;> (try split) <;> omega)
  · rw [if_neg h]; constructor <;> (intro h2; (repeat' split at h2) <;> (try split) <;> (try split) <;> (try split) <;> omega)
set_option maxRecDepth 100000 in
set_option maxHeartbeats 1000000 in
theorem worth_c (c : UInt8) (w : World) : Calls Try.prog 32 #[.int .u8 (c.toNat : Int)] w fun e w' => e = .returned (.int .i64 (worth c : Nat)) ∧ w = w' := by
  have hc := c.toNat_lt
  have HW := Lib.hid (worth_eq c)
  have hwl := worth_le c
  go_enter Try.func32, Try.ntmps32
  go_wp2_with fail
  go_loop [3] (fun i => ∃ n : Nat, n ≤ 16 ∧ i = .int .i64 n ∧ n ≤ worth c) (fun i => 16 - (intOf i).toNat)
  case atStart => exact ⟨0, by omega, rfl, by omega⟩
  case round =>
    obtain ⟨n, hn, rfl, hle⟩ := hrel
    by_cases hlt : n < 16
    · have HS := Lib.hid (sign_c n hlt w)
      have HWN := Lib.hid (HW.out n hlt)
      obtain ⟨x, hx⟩ : ∃ x, (sg n).toNat = x := ⟨_, rfl⟩
      obtain ⟨y, hy⟩ : ∃ y, c.toNat = y := ⟨_, rfl⟩
      rw [hx] at HS HWN
      rw [hy] at HWN hc ⊢
      have HY := Lib.hid hy
      clear hx hy
      by_cases he : worth c = n
      · by_cases h1 : x = y
        · have hb : ((x : Int) == (y : Int)) = true := by rw [beq_iff_eq]; omega
          go_wp2_with (go_at_call 29; refine HS.out.mono ?_; rintro e w' ⟨rfl, rfl⟩)
          go_ret
          exact ⟨ret_int (by rw [he]), rfl⟩
        · have hb : ((x : Int) == (y : Int)) = false := by rw [beq_eq_false_iff_ne]; omega
          have h9 : 9 < n ∧ 87 + n = y := (HWN.out.1 he).resolve_left h1
          have hi9 : (n : Int) > 9 := by omega
          have hb2 : (87 + (n : Int) == (y : Int)) = true := by rw [beq_iff_eq]; omega
          go_wp2_with (go_at_call 29; refine HS.out.mono ?_; rintro e w' ⟨rfl, rfl⟩)
          go_ret
          exact ⟨ret_int (by rw [he]), rfl⟩
      · have h1 : ¬ x = y := fun h => he (HWN.out.2 (Or.inl h))
        have hb : ((x : Int) == (y : Int)) = false := by rw [beq_eq_false_iff_ne]; omega
        by_cases h9 : 9 < n
        · have h2 : ¬ 87 + n = y := fun h => he (HWN.out.2 (Or.inr ⟨h9, h⟩))
          have hi9 : (n : Int) > 9 := by omega
          have hb2 : (87 + (n : Int) == (y : Int)) = false := by rw [beq_eq_false_iff_ne]; omega
          go_wp2_with (go_at_call 29; refine HS.out.mono ?_; rintro e w' ⟨rfl, rfl⟩)
          go_round
          case rel => exact ⟨n + 1, by omega, by go_num, by omega⟩
          case measure => simp [intOf]; omega
        · have hi9 : ¬ ((n : Int) > 9) := by omega
          go_wp2_with (go_at_call 29; refine HS.out.mono ?_; rintro e w' ⟨rfl, rfl⟩)
          go_round
          case rel => exact ⟨n + 1, by omega, by go_num, by omega⟩
          case measure => simp [intOf]; omega
    · obtain rfl : n = 16 := by omega
      go_wp2_with fail
      go_ret
      exact ⟨ret_int (by omega), rfl⟩
end Go.Proofs.Ytfgenbmobfbifaa.fld
