/- The contracts of the reference's k, down, turn (plain words). -/
import Derived.Test.YtohmhcglmaifpaaDoorSha1
import Derived.Test.YtohmhcglmaifpaaDoorRows2
namespace Go.Proofs.YtohmhcglmaifpaaDoor.sha
open Go.RowKit
open Go.Proofs.YtohmhcglmaifpaaDoor.oct Go.Proofs.YtohmhcglmaifpaaDoor.ref Go.Proofs.YtohmhcglmaifpaaDoor.rows
open Go.Lib (byteCells)

theorem wraps_u32 (n : Int) (h₀ : 0 ≤ n) (h₁ : n < 2 ^ 32) : IntKind.u32.wrap n = n := by rw [IntKind.wrap_u32]; omega
theorem xor_u32 (a b : Nat) (ha : a < 2 ^ 32) (hb : b < 2 ^ 32) : bits .xor .u32 (a : Int) (b : Int) = ((a ^^^ b : Nat) : Int) := xor_nat .u32 32 (by decide) wraps_u32 a b ha hb
theorem int_val {k : IntKind} {a b : Int} (h : a = b) : Value.int k a = .int k b := by rw [h]

set_option maxHeartbeats 400000 in
theorem down_c (x n : Nat) (hx : x < 4294967296) (hn : n ≤ 64) (w : World) :
    Calls Tryd.prog 28 #[.int .u32 x, .int .i64 n] w fun e w' => e = .returned (.int .u32 (dwn n x : Nat)) ∧ w = w' := by
  go_enter Tryd.func28, Tryd.ntmps28
  go_wp2_with fail
  go_loop [0, 5] (fun c i => ∃ k : Nat, k ≤ n ∧ i = .int .i64 k ∧ c = .int .u32 (dwn k x : Nat)) (fun _ i => n - (intOf i).toNat)
  case atStart => exact ⟨0, by omega, rfl, rfl⟩
  case round =>
    obtain ⟨k, hk, rfl, rfl⟩ := hrel
    have hy := dwn_lt k hx
    by_cases hlt : k < n
    · go_wp2_with fail
      go_round
      case rel => exact ⟨k + 1, by omega, by go_num, int_val (by show _ = ((dwn k x / 2 : Nat) : Int); omega)⟩
      case measure => simp [intOf]; omega
    · obtain rfl : k = n := by omega
      go_wp2_with fail
      go_ret
      exact ⟨rfl, rfl⟩

set_option maxHeartbeats 400000 in
theorem turn_c (x n : Nat) (hx : x < 4294967296) (hn : n ≤ 64) (w : World) :
    Calls Tryd.prog 34 #[.int .u32 x, .int .i64 n] w fun e w' => e = .returned (.int .u32 (rotN n x : Nat)) ∧ w = w' := by
  go_enter Tryd.func34, Tryd.ntmps34
  go_wp2_with fail
  go_loop [0, 5] (fun c i => ∃ k : Nat, k ≤ n ∧ i = .int .i64 k ∧ c = .int .u32 (rotN k x : Nat)) (fun _ i => n - (intOf i).toNat)
  case atStart => exact ⟨0, by omega, rfl, rfl⟩
  case round =>
    obtain ⟨k, hk, rfl, rfl⟩ := hrel
    have hy := rotN_lt k hx
    by_cases hlt : k < n
    · by_cases ho : rotN k x % 2 = 1
      · have hb : ((rotN k x : Int) % 2 == 1) = true := by rw [beq_iff_eq]; omega
        have HV : Hid (((rotN k x : Nat) : Int) / 2 + 2147483648 = ((rotN (k + 1) x : Nat) : Int)) := by
          show _ = ((rot1 (rotN k x) : Nat) : Int)
          unfold rot1; rw [if_pos ho]; omega
        clear ho
        go_wp2_with fail
        go_round
        case rel => exact ⟨k + 1, by omega, by go_num, int_val HV.out⟩
        case measure => simp [intOf]; omega
      · have hb : ((rotN k x : Int) % 2 == 1) = false := by rw [beq_eq_false_iff_ne]; omega
        have HV : Hid (((rotN k x : Nat) : Int) / 2 = ((rotN (k + 1) x : Nat) : Int)) := by
          show _ = ((rot1 (rotN k x) : Nat) : Int)
          unfold rot1; rw [if_neg ho]; omega
        clear ho
        go_wp2_with fail
        go_round
        case rel => exact ⟨k + 1, by omega, by go_num, int_val HV.out⟩
        case measure => simp [intOf]; omega
    · obtain rfl : k = n := by omega
      go_wp2_with fail
      go_ret
      exact ⟨rfl, rfl⟩

theorem info64 : (Tryd.prog.info? 57).map (·.size) = some 64 := by kernel_rfl

set_option maxHeartbeats 1000000 in
theorem k_c (t : Nat) (ht : t < 64) (w : World) :
    Calls Tryd.prog 35 #[.int .i64 t] w fun e w' => e = .returned (.int .u32 (kt.getD t 0 : Nat)) ∧ Below w.heap.size w w' := by
  have hs : (wcells kt).length = 64 := by rw [wcells_len, kt_len]
  have h1 := wcells_one kt
  have hat := wcells_at (l := kt) (i := t) (by rw [kt_len]; exact ht)
  have HI : Hid ((Tryd.prog.info? 57).map (·.size) = some 64) := info64
  go_enter Tryd.func35, Tryd.ntmps35
  go_wp2_with (first
    | (refine wpList_build_to rfl 57 _ rfl (wcells kt).toArray (by kernel_rfl) ?_; generalize wcells kt = C at hs h1 hat ⊢; have hi2 : Hid ((Tryd.prog.info? 57).map (·.size) = some C.length) := (by rw [hs]; exact HI.out))
    | (with_reducible refine wpList_store_new rfl 57 (.tmp 3) (.tmp 4) rfl C 57 _ rfl rfl hi2.out (Eq.trans (by decide) hs.symm) h1 ?_; intro w1 hB hb _; have hc := (hB.cell t).trans hat))
  go_ret
  exact ⟨rfl, hb⟩
end Go.Proofs.YtohmhcglmaifpaaDoor.sha
