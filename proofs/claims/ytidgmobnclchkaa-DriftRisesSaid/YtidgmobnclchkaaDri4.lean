/- The contracts of the reference of drift: Least by halves; apart, Live, Over. Any ints. -/
import Derived.Test.YtidgmobnclchkaaDri3
namespace Go.Proofs.Ytidgmobnclchkaa.dri
open Go.RowKit
open Go.Proofs.Ytidgmobnclchkaa.oct

set_option maxHeartbeats 1000000 in
theorem rLeast_c (n d : Int) (w : World) (hn : I64 n) (hd : I64 d) :
    Calls Try.prog 19 #[.int .i64 n, .int .i64 d] w fun e w' => e = .returned (.tuple #[.int .i64 (leastP n d).1, .int .i64 ((leastP n d).2 : Nat)]) ∧ w = w' := by
  have HR := Lib.hid (rright_c n d w hn hd)
  unfold leastP
  cases hr : rightB n d with
  | false =>
    rw [hr] at HR
    rw [if_neg (by decide)]
    go_enter Try.func19, Try.ntmps19
    go_wp2_with fail
    refine HR.out.mono ?_
    rintro e w1 ⟨rfl, rfl⟩
    go_wp2_with fail
    go_ret2
    exact ⟨rfl, rfl⟩
  | true =>
    rw [hr] at HR
    rw [if_pos rfl]
    obtain ⟨⟨h1, h2⟩, h3, h4⟩ := right_iff.1 hr
    have h2' : n ≤ 1099511627776 := h2
    clear h2 hr
    have hq0 : 0 ≤ (1000 * n + (1000 + d) - 1) / (1000 + d) := Int.ediv_nonneg (by omega) (by omega)
    have hq1 : (1000 * n + (1000 + d) - 1) / (1000 + d) ≤ n := (bounds_order h1 ⟨h3, h4⟩).1
    obtain ⟨q, hq⟩ : ∃ q, (1000 * n + (1000 + d) - 1) / (1000 + d) = q := ⟨_, rfl⟩
    rw [hq] at hq0 hq1 ⊢
    have HQ := Lib.hid hq
    clear hq
    go_enter Try.func19, Try.ntmps19
    go_wp2_with fail
    refine HR.out.mono ?_
    rintro e w1 ⟨rfl, rfl⟩
    go_wp2_with fail
    go_loopg [6, 7] n.toNat (fun g s6 s7 wx => ∃ lo hi : Int, s6 = .int .i64 lo ∧ s7 = .int .i64 hi ∧ 0 ≤ lo ∧ lo ≤ q ∧ q ≤ hi ∧ hi ≤ n ∧ hi - lo ≤ (g : Int) ∧ w = wx)
    case atStart => exact ⟨0, n, rfl, rfl, Int.le_refl _, hq0, hq1, Int.le_refl _, by omega, rfl⟩
    case round =>
      obtain ⟨lo, hi, rfl, rfl, k0, k1, k2, k3, hg, rfl⟩ := hrel
      by_cases h : lo < hi
      · obtain ⟨m, hm⟩ : ∃ m, (lo + hi) / 2 = m := ⟨_, rfl⟩
        have hm1 : lo ≤ m ∧ m < hi := by omega
        have i1 : (lo + hi).tdiv 2 = m := by rw [Int.tdiv_eq_ediv_of_nonneg (by omega), hm]
        obtain ⟨p, hp⟩ : ∃ p, m * (1000 + d) = p := ⟨_, rfl⟩
        have hp1 := mul_bears (m := m) (b := 1000 + d) ⟨by omega, by omega⟩ ⟨by omega, by omega⟩
        have HK : Hid (q ≤ m ↔ 1000 * n ≤ p) := by show _ ↔ _; rw [← HQ.out, ← hp]; exact cl_le (by omega)
        rw [hp] at hp1
        have HP := Lib.hid hp
        have W1 : Hid (wrap64 p = p) := by show _ = _; unfold wrap64; omega
        clear hp hm
        by_cases hx : 1000 * n ≤ p
        · have hy := HK.out.2 hx
          go_wp2_with (first | rw [i1] | rw [HP.out, W1.out])
          go_roundg (m - lo).toNat
          case measure => omega
          case rel => exact ⟨lo, m, rfl, rfl, k0, k1, by omega, by omega, by omega, rfl⟩
        · have hy : ¬ q ≤ m := fun e => hx (HK.out.1 e)
          go_wp2_with (first | rw [i1] | rw [HP.out, W1.out])
          go_roundg (hi - (m + 1)).toNat
          case measure => omega
          case rel => exact ⟨m + 1, hi, by go_num, rfl, by omega, by omega, k2, k3, by omega, rfl⟩
      · have he : lo = q := by omega
        subst he
        go_wp2_with fail
        go_ret2
        exact ⟨rfl, rfl⟩
/-- how far two ints are apart -/
def apartP (a b : Int) : Int := if b ≤ a then a - b else b - a
theorem apart_bears {a b : Int} (ha : I64 a) (hb : I64 b) : 0 ≤ apartP a b ∧ apartP a b < 18446744073709551616 := by
  unfold apartP
  have := ha.1; have := ha.2; have := hb.1; have := hb.2
  split <;> omega
theorem apart_c (a b : Int) (w : World) (ha : I64 a) (hb : I64 b) :
    Calls Try.prog 31 #[.int .i64 a, .int .i64 b] w fun e w' => e = .returned (.int .u64 (apartP a b)) ∧ w = w' := by
  unfold apartP
  have a1 : -9223372036854775808 ≤ a := ha.1
  have a2 : a ≤ 9223372036854775807 := ha.2
  have a3 : -9223372036854775808 ≤ b := hb.1
  have a4 : b ≤ 9223372036854775807 := hb.2
  go_enter Try.func31, Try.ntmps31
  by_cases h : b ≤ a
  · rw [if_pos h]
    go_wp2_with fail
    go_ret
    have e : IntKind.u64.wrap (IntKind.u64.wrap a - IntKind.u64.wrap b) = a - b := by simp only [IntKind.wrap_u64]; omega
    exact ⟨by go_num, rfl⟩
  · rw [if_neg h]
    go_wp2_with fail
    go_ret
    have e : IntKind.u64.wrap (IntKind.u64.wrap b - IntKind.u64.wrap a) = b - a := by simp only [IntKind.wrap_u64]; omega
    exact ⟨by go_num, rfl⟩
set_option maxHeartbeats 1000000 in
theorem rlive_c (s n k : Int) (w : World) (hs : I64 s) (hn : I64 n) (hk : I64 k) :
    Calls Try.prog 23 #[.int .i64 s, .int .i64 n, .int .i64 k] w fun e w' => e = .returned (.bool (liveP s n k)) ∧ w = w' := by
  have HC := Lib.hid (apart_c n s w hn hs)
  have a1 : -9223372036854775808 ≤ s := hs.1
  have a2 : s ≤ 9223372036854775807 := hs.2
  have a3 : -9223372036854775808 ≤ n := hn.1
  have a4 : n ≤ 9223372036854775807 := hn.2
  have a5 : -9223372036854775808 ≤ k := hk.1
  have a6 : k ≤ 9223372036854775807 := hk.2
  by_cases h1 : s ≤ n
  · by_cases h2 : 0 < k
    · have e : apartP n s = n - s := by unfold apartP; rw [if_pos h1]
      rw [e] at HC
      clear e
      have hv : liveP s n k = decide (n - s < k) := by
        unfold liveP
        rw [decide_eq_true h1, Bool.true_and]
        exact decide_eq_decide.2 (by omega)
      rw [hv]
      obtain ⟨p, hp⟩ : ∃ p, n - s = p := ⟨_, rfl⟩
      rw [hp] at HC ⊢
      have i1 : k % 18446744073709551616 = k := by omega
      clear hv hp
      go_enter Try.func23, Try.ntmps23
      go_wp2_with fail
      refine HC.out.mono ?_
      rintro e w1 ⟨rfl, rfl⟩
      go_wp2_with fail
      go_ret
      exact ⟨rfl, rfl⟩
    · have hv : liveP s n k = false := by unfold liveP; rw [decide_eq_false (show ¬ (n < s + k) by omega), Bool.and_false]
      rw [hv]
      clear hv
      go_enter Try.func23, Try.ntmps23
      go_wp2_with fail
      go_ret
      exact ⟨rfl, rfl⟩
  · have hv : liveP s n k = false := by unfold liveP; rw [decide_eq_false h1, Bool.false_and]
    rw [hv]
    clear hv
    go_enter Try.func23, Try.ntmps23
    go_wp2_with fail
    go_ret
    exact ⟨rfl, rfl⟩
set_option maxHeartbeats 1000000 in
theorem rover_c (s n t : Int) (w : World) (hs : I64 s) (hn : I64 n) (ht : I64 t) :
    Calls Try.prog 25 #[.int .i64 s, .int .i64 n, .int .i64 t] w fun e w' => e = .returned (.bool (overP s n t)) ∧ w = w' := by
  have HC := Lib.hid (apart_c n s w hn hs)
  have HZ := Lib.hid (apart_c 0 t w ⟨by decide, by decide⟩ ht)
  have a1 : -9223372036854775808 ≤ s := hs.1
  have a2 : s ≤ 9223372036854775807 := hs.2
  have a3 : -9223372036854775808 ≤ n := hn.1
  have a4 : n ≤ 9223372036854775807 := hn.2
  have a5 : -9223372036854775808 ≤ t := ht.1
  have a6 : t ≤ 9223372036854775807 := ht.2
  by_cases h1 : s ≤ n
  · by_cases h2 : t < 0
    · have hv : overP s n t = true := by unfold overP; exact decide_eq_true (by omega)
      rw [hv]
      clear hv
      go_enter Try.func25, Try.ntmps25
      go_wp2_with fail
      go_ret
      exact ⟨rfl, rfl⟩
    · have e : apartP n s = n - s := by unfold apartP; rw [if_pos h1]
      rw [e] at HC
      clear e
      have hv : overP s n t = decide (t < n - s) := by
        unfold overP
        exact decide_eq_decide.2 (by omega)
      rw [hv]
      obtain ⟨p, hp⟩ : ∃ p, n - s = p := ⟨_, rfl⟩
      rw [hp] at HC ⊢
      have i1 : t % 18446744073709551616 = t := by omega
      clear hv hp
      go_enter Try.func25, Try.ntmps25
      go_wp2_with fail
      refine HC.out.mono ?_
      rintro e w1 ⟨rfl, rfl⟩
      go_wp2_with fail
      go_ret
      exact ⟨rfl, rfl⟩
  · by_cases h2 : t < 0
    · have e : apartP n s = s - n := by unfold apartP; rw [if_neg h1]
      have e2 : apartP 0 t = 0 - t := by unfold apartP; rw [if_pos (by omega)]
      rw [e] at HC
      rw [e2] at HZ
      have hv : overP s n t = decide (s - n < 0 - t) := by
        unfold overP
        exact decide_eq_decide.2 (by omega)
      rw [hv]
      obtain ⟨p, hp⟩ : ∃ p, s - n = p := ⟨_, rfl⟩
      obtain ⟨z, hz⟩ : ∃ z, 0 - t = z := ⟨_, rfl⟩
      rw [hp] at HC ⊢
      rw [hz] at HZ ⊢
      clear hv hp hz e e2
      go_enter Try.func25, Try.ntmps25
      go_wp2_with fail
      refine HC.out.mono ?_
      rintro e w1 ⟨rfl, rfl⟩
      go_wp2_with fail
      refine HZ.out.mono ?_
      rintro e w1 ⟨rfl, rfl⟩
      go_wp2_with fail
      go_ret
      exact ⟨rfl, rfl⟩
    · have hv : overP s n t = false := by unfold overP; exact decide_eq_false (by omega)
      rw [hv]
      clear hv
      go_enter Try.func25, Try.ntmps25
      go_wp2_with fail
      go_ret
      exact ⟨rfl, rfl⟩
end Go.Proofs.Ytidgmobnclchkaa.dri
