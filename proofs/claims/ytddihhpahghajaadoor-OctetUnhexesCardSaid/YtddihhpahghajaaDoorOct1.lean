/- Contracts of the small functions of octet and of its reference: lacking, Same, digit, worth, sign. No condition beyond the bounds in each statement. -/
import Derived.Test.YtddihhpahghajaaDoorProg
import Derived.WalkKit
import Derived.WalkSpells
import Derived.WalkLawsBesides
import Derived.BigQuiet
import Derived.Deep.QuietTactic
import Derived.Lib.Hide
import Derived.Deep.LoopGhost
import Derived.Deep.Light
namespace Go.Proofs.YtddihhpahghajaaDoor.oct
open Go.RowKit

theorem ret_int {k : IntKind} {a b : Int} (h : a = b) : Ending.returned (.int k a) = .returned (.int k b) := by rw [h]

/-- a row of bytes at a slice's address -/
def In8 (w : World) (p : Option Addr) (l : List UInt8) : Prop :=
  0 < l.length → ∃ b o, p = some ⟨b, o, none⟩ ∧ ∀ i, i < l.length → w.cell? ⟨b, o + i, none⟩ = some (.int .u8 ((l.getD i 0).toNat : Int))

def lack (n : Nat) : Nat := (4 - n % 4) % 4

set_option maxHeartbeats 400000 in
theorem lacking_c (n : Nat) (hn : n ≤ 9223372036854775807) (w : World) :
    Calls Tryd.prog 41 #[.int .i64 n] w fun e w' => e = .returned (.int .i64 (lack n)) ∧ w = w' := by
  go_enter Tryd.func41, Tryd.ntmps41
  go_wp2
  go_ret
  exact ⟨ret_int (by unfold lack; omega), rfl⟩

def dig (n : Int) : Int := if n < 10 then 48 + n else 87 + n
theorem dig_lo {n : Int} (h : n < 10) : 48 + n = dig n := by unfold dig; rw [if_pos h]
theorem dig_hi {n : Int} (h : 10 ≤ n) : 87 + n = dig n := by unfold dig; rw [if_neg (by omega)]

set_option maxHeartbeats 400000 in
theorem digit_c (n : Int) (h0 : 0 ≤ n) (h1 : n < 16) (w : World) :
    Calls Tryd.prog 35 #[.int .i64 n] w fun e w' => e = .returned (.int .u8 (dig n)) ∧ w = w' := by
  by_cases h : n < 10
  · go_enter Tryd.func35, Tryd.ntmps35
    go_wp2
    go_ret
    exact ⟨ret_int (dig_lo h), rfl⟩
  · go_enter Tryd.func35, Tryd.ntmps35
    go_wp2
    go_ret
    exact ⟨ret_int (dig_hi h), rfl⟩

/-- the value of a sign by sixteen: the first n below 16 whose digit it is -/
def wor (c : Int) : Int := if 48 ≤ c ∧ c ≤ 57 then c - 48 else if 97 ≤ c ∧ c ≤ 102 then c - 87 else -1
theorem wor_dig {k c : Int} (h0 : 0 ≤ k) (h1 : k < 16) (h : dig k = c) : wor c = k := by
  unfold dig at h; unfold wor
  split at h <;> split <;> (try split) <;> omega
theorem wor_none {c : Int} (h : ∀ k : Int, 0 ≤ k → k < 16 → dig k ≠ c) : wor c = -1 := by
  unfold wor
  split
  · exact absurd (by unfold dig; rw [if_pos (by omega)]; omega) (h (c - 48) (by omega) (by omega))
  · split
    · exact absurd (by unfold dig; rw [if_neg (by omega)]; omega) (h (c - 87) (by omega) (by omega))
    · rfl

set_option maxHeartbeats 400000 in
theorem worth_c (c : Int) (w : World) :
    Calls Tryd.prog 37 #[.int .u8 c] w fun e w' => e = .returned (.int .i64 (wor c)) ∧ w = w' := by
  go_enter Tryd.func37, Tryd.ntmps37
  go_wp2
  go_loop [3] (fun n => ∃ k : Nat, k ≤ 16 ∧ n = .int .i64 k ∧ Hid (∀ j : Int, 0 ≤ j → j < k → dig j ≠ c)) (fun n => 16 - (intOf n).toNat)
  case atStart => exact ⟨0, by omega, rfl, fun j h0 h1 => by omega⟩
  case round =>
    obtain ⟨k, hk, rfl, HN⟩ := hrel
    by_cases hlt : k < 16
    · by_cases he : dig k = c
      · have hb : (dig k == c) = true := by simpa using he
        have HE := Lib.hid he
        clear he
        go_wp2_with (go_at_call 35; refine (digit_c _ (by omega) (by omega) _).mono ?_; rintro e w' ⟨rfl, rfl⟩)
        go_ret
        exact ⟨ret_int (wor_dig (by omega) (by omega) HE.out).symm, rfl⟩
      · have hb : (dig k == c) = false := by simpa using he
        have HE := Lib.hid he
        clear he
        go_wp2_with (go_at_call 35; refine (digit_c _ (by omega) (by omega) _).mono ?_; rintro e w' ⟨rfl, rfl⟩)
        go_round
        case rel => exact ⟨k + 1, by omega, by go_num, fun j h0 h1 hj => by
          by_cases h : j = k
          · subst h; exact HE.out hj
          · exact HN.out j h0 (by omega) hj⟩
        case measure => simp [intOf]; omega
    · go_wp2
      go_ret
      exact ⟨ret_int (wor_none fun j h0 h1 => HN.out j h0 (by omega)).symm, rfl⟩

/-- the sign of sixty-four that is worth n -/
def sgn (n : Int) (web : Bool) : Int := if n < 26 then 65 + n else if n < 52 then 71 + n else if n < 62 then n - 4 else if n = 62 then (if web then 45 else 43) else (if web then 95 else 47)

set_option maxHeartbeats 400000 in
theorem sign_c (n : Int) (web : Bool) (h0 : 0 ≤ n) (h1 : n < 64) (w : World) :
    Calls Tryd.prog 48 #[.int .i64 n, .bool web] w fun e w' => e = .returned (.int .u8 (sgn n web)) ∧ w = w' := by
  by_cases a : n < 26
  · go_enter Tryd.func48, Tryd.ntmps48
    go_wp2
    go_ret
    exact ⟨ret_int (by simp [sgn, a]), rfl⟩
  by_cases b : n < 52
  · go_enter Tryd.func48, Tryd.ntmps48
    go_wp2
    go_ret
    exact ⟨ret_int (by simp [sgn, b]; omega), rfl⟩
  by_cases c : n < 62
  · go_enter Tryd.func48, Tryd.ntmps48
    go_wp2
    go_ret
    exact ⟨ret_int (by simp [sgn, c]; omega), rfl⟩
  have hd : n = 62 ∨ n = 63 := by omega
  clear a b c h0 h1
  rcases hd with rfl | rfl <;> cases web
  all_goals
    go_enter Tryd.func48, Tryd.ntmps48
    go_wp2
    go_ret
    exact ⟨ret_int (by decide), rfl⟩

end Go.Proofs.YtddihhpahghajaaDoor.oct
