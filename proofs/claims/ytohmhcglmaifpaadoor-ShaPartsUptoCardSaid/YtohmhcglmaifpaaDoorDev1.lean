/- The contracts of math/bits.RotateLeft32 and sha.turned at the turns that sha asks for (down by 2, 6, 7, 11, 13, 17, 18, 19, 22, 25 bits). No condition. -/
import Derived.Test.YtohmhcglmaifpaaDoorSha4
namespace Go.Proofs.YtohmhcglmaifpaaDoor.sha
open Go.RowKit
open Go.Proofs.YtohmhcglmaifpaaDoor.oct Go.Proofs.YtohmhcglmaifpaaDoor.ref Go.Proofs.YtohmhcglmaifpaaDoor.rows
open Go.Lib (byteCells)

theorem or_u32 (a b : Nat) (ha : a < 2 ^ 32) (hb : b < 2 ^ 32) : bits .or .u32 (a : Int) (b : Int) = ((a ||| b : Nat) : Int) := by
  have ha' : a % 2 ^ 32 = a := Nat.mod_eq_of_lt ha
  have hb' : b % 2 ^ 32 = b := Nat.mod_eq_of_lt hb
  have hk : IntKind.u32.bits = 32 := rfl
  simp only [bits, BitVec.ofInt_natCast, BitVec.toNat_or, BitVec.toNat_ofNat, hk, ha', hb']
  exact wraps_u32 _ (Int.natCast_nonneg _) (by have := Nat.or_lt_two_pow (n := 32) ha hb; omega)
theorem rot_nat (x n s : Nat) (hx : x < 4294967296) (hn : n + s = 32) : (x * 2 ^ s % 4294967296) ||| (x / 2 ^ n) = rotN n x := by
  have e : 4294967296 = 2 ^ n * 2 ^ s := by rw [← Nat.pow_add, hn]
  have h1 : x / 2 ^ n < 2 ^ s := by
    rw [Nat.div_lt_iff_lt_mul (Nat.two_pow_pos n), Nat.mul_comm, ← e]; exact hx
  rw [rotN_eq n (by omega) x, e, Nat.mul_mod_mul_right, show 32 - n = s from by omega, Nat.add_comm, Nat.mul_comm (x % 2 ^ n), Nat.two_pow_add_eq_or_of_lt h1]
theorem rot_val (x n s : Nat) (hx : x < 4294967296) (hn : n + s = 32) : bits .or .u32 ((x : Int) * 2 ^ s % 4294967296) ((x : Int) / 2 ^ n) = ((rotN n x : Nat) : Int) := by
  rw [← rot_nat x n s hx hn, ← or_u32 _ _ (Nat.mod_lt _ (by decide)) (Nat.lt_of_le_of_lt (Nat.div_le_self _ _) hx)]
  simp

set_option maxHeartbeats 400000 in
theorem rotl_c (x n s : Nat) (hx : x < 4294967296) (hn : n + s = 32) (h0 : 0 < n) (h1 : 0 < s) (hs : bits .and .u64 (IntKind.u64.wrap (-(n : Int))) 31 = (s : Int)) (w : World) :
    Calls Tryd.prog 38 #[.int .u32 x, .int .i64 (-(n : Int))] w fun e w' => e = .returned (.int .u32 (rotN n x : Nat)) ∧ w = w' := by
  have s1 : (s : Int) ≤ 31 := by omega
  have s2 : (0 : Int) ≤ s := by omega
  have s3 : IntKind.u64.wrap (32 - (s : Int)) = (n : Int) := by rw [IntKind.wrap_u64]; omega
  have s4 : (n : Int) ≤ 31 := by omega
  have s5 : 1 ≤ n := h0
  have HV := Lib.hid (rot_val x n s hx hn)
  clear hn h0
  go_enter Tryd.func38, Tryd.ntmps38
  go_wp2_with fail
  go_ret
  exact ⟨ret_int HV.out, rfl⟩

set_option maxHeartbeats 400000 in
theorem turned_n (x n s : Nat) (hx : x < 4294967296) (hn : n + s = 32) (h0 : 0 < n) (h1 : 0 < s) (hs : bits .and .u64 (IntKind.u64.wrap (-(n : Int))) 31 = (s : Int)) (w : World) :
    Calls Tryd.prog 37 #[.int .u32 x, .int .i64 n] w fun e w' => e = .returned (.int .u32 (rotN n x : Nat)) ∧ w = w' := by
  have H := Lib.hid (rotl_c x n s hx hn h0 h1 hs w)
  have s4 : (n : Int) ≤ 31 := by omega
  clear hs hn h0 h1
  go_enter Tryd.func37, Tryd.ntmps37
  go_wp2_with fail
  refine H.out.mono ?_
  rintro e w' ⟨rfl, rfl⟩
  go_wp2_with fail
  go_ret
  exact ⟨rfl, rfl⟩

/-- the turns that are asked for -/
def turnOk (n : Nat) : Bool := decide (0 < n) && decide (n < 32) && decide (bits .and .u64 (IntKind.u64.wrap (-(n : Int))) 31 = ((32 - n : Nat) : Int))
theorem turned_c (x n : Nat) (m : Int) (hm : m = n) (hx : x < 4294967296) (h : turnOk n = true) (w : World) :
    Calls Tryd.prog 37 #[.int .u32 x, .int .i64 m] w fun e w' => e = .returned (.int .u32 (rotN n x : Nat)) ∧ w = w' := by
  subst hm
  simp only [turnOk, Bool.and_eq_true, decide_eq_true_eq] at h
  exact turned_n x n (32 - n) hx (by omega) h.1.1 (by omega) h.2 w
theorem turnOk_all : turnOk 2 = true ∧ turnOk 6 = true ∧ turnOk 7 = true ∧ turnOk 11 = true ∧ turnOk 13 = true ∧ turnOk 17 = true ∧ turnOk 18 = true ∧ turnOk 19 = true ∧ turnOk 22 = true ∧ turnOk 25 = true := by
  decide +kernel
end Go.Proofs.YtohmhcglmaifpaaDoor.sha
