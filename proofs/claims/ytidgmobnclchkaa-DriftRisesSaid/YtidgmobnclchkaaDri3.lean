/- The contracts of the reference of drift: Least, most, Most, Short by halves. Any ints. -/
import Derived.Test.YtidgmobnclchkaaDri2
namespace Go.Proofs.Ytidgmobnclchkaa.dri
open Go.RowKit
open Go.Proofs.Ytidgmobnclchkaa.oct

theorem mul_bears {m b : Int} (hm : 0 ≤ m ∧ m ≤ 2199023255552) (hb : 500 ≤ b ∧ b ≤ 1500) : 0 ≤ m * b ∧ m * b ≤ 3298534883328000 := by
  refine ⟨Int.mul_nonneg hm.1 (by omega), ?_⟩
  have h1 : m * b ≤ m * 1500 := Int.mul_le_mul_of_nonneg_left (by omega) hm.1
  omega
set_option maxHeartbeats 1000000 in
theorem rmost_c (a b t : Int) (w : World) (ha : 0 ≤ a ∧ a ≤ 3298534883328000) (hb : 500 ≤ b ∧ b ≤ 1500) (ht : 0 ≤ t ∧ t ≤ 2199023255552) (hc : a / b ≤ t) :
    Calls Try.prog 29 #[.int .i64 a, .int .i64 b, .int .i64 t] w fun e w' => e = .returned (.int .i64 (a / b)) ∧ w = w' := by
  have hq0 : 0 ≤ a / b := Int.ediv_nonneg ha.1 (by omega)
  obtain ⟨q, hq⟩ : ∃ q, a / b = q := ⟨_, rfl⟩
  rw [hq] at hc hq0 ⊢
  have HQ := Lib.hid hq
  clear hq
  go_enter Try.func29, Try.ntmps29
  go_wp2_with fail
  go_loopg [7, 8] t.toNat (fun g s7 s8 wx => ∃ lo hi : Int, s7 = .int .i64 lo ∧ s8 = .int .i64 hi ∧ 0 ≤ lo ∧ lo ≤ q ∧ q ≤ hi ∧ hi ≤ t ∧ hi - lo ≤ (g : Int) ∧ w = wx)
  case atStart => exact ⟨0, t, rfl, rfl, Int.le_refl _, hq0, hc, Int.le_refl _, by omega, rfl⟩
  case round =>
    obtain ⟨lo, hi, rfl, rfl, h0, h1, h2, h3, hg, rfl⟩ := hrel
    by_cases h : lo < hi
    · obtain ⟨m, hm⟩ : ∃ m, (lo + hi + 1) / 2 = m := ⟨_, rfl⟩
      have hm1 : lo < m ∧ m ≤ hi := by omega
      have i1 : (lo + hi + 1).tdiv 2 = m := by rw [Int.tdiv_eq_ediv_of_nonneg (by omega), hm]
      obtain ⟨p, hp⟩ : ∃ p, m * b = p := ⟨_, rfl⟩
      have hp1 := mul_bears (m := m) (b := b) ⟨by omega, by omega⟩ hb
      have HK : Hid (m ≤ q ↔ p ≤ a) := by show _ ↔ _; rw [← HQ.out, ← hp]; exact fl_le (by omega)
      rw [hp] at hp1
      have HP := Lib.hid hp
      have W1 : Hid (wrap64 p = p) := by show _ = _; unfold wrap64; omega
      clear hp hm
      by_cases hx : p ≤ a
      · have hy := HK.out.2 hx
        go_wp2_with (first | rw [i1] | rw [HP.out, W1.out])
        go_roundg (hi - m).toNat
        case measure => omega
        case rel => exact ⟨m, hi, rfl, rfl, by omega, hy, h2, h3, by omega, rfl⟩
      · have hy : ¬ m ≤ q := fun e => hx (HK.out.1 e)
        go_wp2_with (first | rw [i1] | rw [HP.out, W1.out])
        go_roundg (m - 1 - lo).toNat
        case measure => omega
        case rel => exact ⟨lo, m - 1, rfl, by go_num, by omega, h1, by omega, by omega, by omega, rfl⟩
    · have he : lo = q := by omega
      subst he
      go_wp2_with fail
      go_ret
      exact ⟨rfl, rfl⟩
set_option maxHeartbeats 1000000 in
theorem rMost_c (n d : Int) (w : World) (hn : I64 n) (hd : I64 d) :
    Calls Try.prog 20 #[.int .i64 n, .int .i64 d] w fun e w' => e = .returned (.tuple #[.int .i64 (mostP n d).1, .int .i64 ((mostP n d).2 : Nat)]) ∧ w = w' := by
  have HR := Lib.hid (rright_c n d w hn hd)
  unfold mostP
  cases hr : rightB n d with
  | false =>
    rw [hr] at HR
    rw [if_neg (by decide)]
    go_enter Try.func20, Try.ntmps20
    go_wp2_with fail
    refine HR.out.mono ?_
    rintro e w1 ⟨rfl, rfl⟩
    go_wp2_with fail
    go_ret2
    exact ⟨rfl, rfl⟩
  | true =>
    rw [hr] at HR
    rw [if_pos rfl]
    obtain ⟨⟨h1, h2⟩, h3, h4⟩ := right_iff.1 hr
    have h2' : n ≤ 1099511627776 := h2
    clear h2 hr
    have i1 : IntKind.i64.wrap (1000 - d) = 1000 - d := by rw [IntKind.wrap_i64]; omega
    have hq : 1000 * n / (1000 - d) ≤ 2 * n := by
      have h5 : 2 * n * 500 ≤ 2 * n * (1000 - d) := Int.mul_le_mul_of_nonneg_left (by omega) (by omega)
      refine Int.le_of_lt_add_one ((Int.ediv_lt_iff_lt_mul (by omega)).2 ?_)
      rw [Int.add_mul]
      omega
    have HM := Lib.hid (rmost_c (1000 * n) (1000 - d) (2 * n) w ⟨by omega, by omega⟩ ⟨by omega, by omega⟩ ⟨by omega, by omega⟩ hq)
    obtain ⟨q, hqq⟩ : ∃ q, 1000 * n / (1000 - d) = q := ⟨_, rfl⟩
    rw [hqq] at HM ⊢
    clear hqq hq
    go_enter Try.func20, Try.ntmps20
    go_wp2_with fail
    refine HR.out.mono ?_
    rintro e w1 ⟨rfl, rfl⟩
    go_wp2_with fail
    refine HM.out.mono ?_
    rintro e w1 ⟨rfl, rfl⟩
    go_wp2_with fail
    go_ret2
    exact ⟨rfl, rfl⟩
set_option maxHeartbeats 1000000 in
theorem rShort_c (n d : Int) (w : World) (hn : I64 n) (hd : I64 d) :
    Calls Try.prog 21 #[.int .i64 n, .int .i64 d] w fun e w' => e = .returned (.tuple #[.int .i64 (shortP n d).1, .int .i64 ((shortP n d).2 : Nat)]) ∧ w = w' := by
  have HR := Lib.hid (rright_c n d w hn hd)
  unfold shortP
  cases hr : rightB n d with
  | false =>
    rw [hr] at HR
    rw [if_neg (by decide)]
    go_enter Try.func21, Try.ntmps21
    go_wp2_with fail
    refine HR.out.mono ?_
    rintro e w1 ⟨rfl, rfl⟩
    go_wp2_with fail
    go_ret2
    exact ⟨rfl, rfl⟩
  | true =>
    rw [hr] at HR
    rw [if_pos rfl]
    obtain ⟨⟨h1, h2⟩, h3, h4⟩ := right_iff.1 hr
    have h2' : n ≤ 1099511627776 := h2
    clear h2 hr
    have i1 : IntKind.i64.wrap (1000 + d) = 1000 + d := by rw [IntKind.wrap_i64]; omega
    have hb := mul_bears (m := n) (b := 1000 - d) ⟨h1, by omega⟩ ⟨by omega, by omega⟩
    have hq : n * (1000 - d) / (1000 + d) ≤ n := by
      refine Int.le_of_lt_add_one ((Int.ediv_lt_iff_lt_mul (by omega)).2 ?_)
      have h5 : n * (1000 - d) ≤ n * (1000 + d) := Int.mul_le_mul_of_nonneg_left (by omega) h1
      rw [Int.add_mul]
      omega
    obtain ⟨p, hp⟩ : ∃ p, n * (1000 - d) = p := ⟨_, rfl⟩
    rw [hp] at hb hq ⊢
    have HM := Lib.hid (rmost_c p (1000 + d) n w ⟨by omega, by omega⟩ ⟨by omega, by omega⟩ ⟨by omega, by omega⟩ hq)
    obtain ⟨q, hqq⟩ : ∃ q, p / (1000 + d) = q := ⟨_, rfl⟩
    rw [hqq] at HM ⊢
    have HP := Lib.hid hp
    have W1 : Hid (wrap64 p = p) := by show _ = _; unfold wrap64; omega
    clear hqq hq hp
    go_enter Try.func21, Try.ntmps21
    go_wp2_with fail
    refine HR.out.mono ?_
    rintro e w1 ⟨rfl, rfl⟩
    go_wp2_with (rw [HP.out, W1.out])
    refine HM.out.mono ?_
    rintro e w1 ⟨rfl, rfl⟩
    go_wp2_with fail
    go_ret2
    exact ⟨rfl, rfl⟩
end Go.Proofs.Ytidgmobnclchkaa.dri
