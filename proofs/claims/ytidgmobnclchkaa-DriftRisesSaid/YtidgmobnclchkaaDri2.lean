/- The contracts of the reference of drift: Within, Turn, Read, right, Least, most, Most, Short, apart, Live, Over. Any ints. -/
import Derived.Test.YtidgmobnclchkaaDri1
import Derived.Test.YtidgmobnclchkaaMem0
import Derived.WalkKit
namespace Go.Proofs.Ytidgmobnclchkaa.dri
open Go.RowKit
open Go.Proofs.Ytidgmobnclchkaa.oct

/-- an int that 64 bits hold -/
abbrev I64 (n : Int) : Prop := -9223372036854775808 ≤ n ∧ n ≤ 9223372036854775807
set_option maxHeartbeats 1000000 in
theorem rwithin_c (r d : Int) (w : World) (hr : I64 r) (hd : I64 d) :
    Calls Try.prog 15 #[.int .i64 r, .int .i64 d] w fun e w' => e = .returned (.bool (withinB r d)) ∧ w = w' := by
  unfold withinB
  have a1 : -9223372036854775808 ≤ r := hr.1
  have a2 : r ≤ 9223372036854775807 := hr.2
  have a3 : -9223372036854775808 ≤ d := hd.1
  have a4 : d ≤ 9223372036854775807 := hd.2
  go_enter Try.func15, Try.ntmps15
  by_cases h1 : 0 ≤ d
  · by_cases h2 : d ≤ 500
    · have i1 : IntKind.i64.wrap (0 - d) = -d := by rw [IntKind.wrap_i64]; omega
      by_cases h3 : -d ≤ r
      · go_wp2_with fail
        go_ret
        refine ⟨?_, rfl⟩
        rw [decide_eq_true h1, decide_eq_true h2, decide_eq_true h3]; rfl
      · go_wp2_with fail
        go_ret
        refine ⟨?_, rfl⟩
        rw [decide_eq_false (show ¬ (-d ≤ r) by omega)]; simp
    · go_wp2_with fail
      go_ret
      refine ⟨?_, rfl⟩
      rw [decide_eq_false (show ¬ (d ≤ 500) by omega)]; simp
  · go_wp2_with fail
    go_ret
    refine ⟨?_, rfl⟩
    rw [decide_eq_false (show ¬ (0 ≤ d) by omega)]; simp
theorem rread_c (c : Int) (w : World) (hc : I64 c) :
    Calls Try.prog 13 #[.int .i64 c] w fun e w' => e = .returned (.int .i64 (readP c)) ∧ w = w' := by
  unfold readP
  have a1 : -9223372036854775808 ≤ c := hc.1
  have a2 : c ≤ 9223372036854775807 := hc.2
  go_enter Try.func13, Try.ntmps13
  by_cases h : c < 0
  · rw [if_pos h]
    go_wp2_with fail
    go_ret
    exact ⟨rfl, rfl⟩
  · rw [if_neg h]
    have i1 : c.tdiv 1000 = c / 1000 := Int.tdiv_eq_ediv_of_nonneg (by omega)
    go_wp2_with fail
    go_ret
    exact ⟨rfl, rfl⟩
theorem within_64 {r d : Int} (h : withinB r d = true) : I64 r ∧ I64 d := by have := within_iff.1 h; exact ⟨⟨by omega, by omega⟩, by omega, by omega⟩
set_option maxHeartbeats 1000000 in
theorem rright_c (n d : Int) (w : World) (hn : I64 n) (hd : I64 d) :
    Calls Try.prog 28 #[.int .i64 n, .int .i64 d] w fun e w' => e = .returned (.bool (rightB n d)) ∧ w = w' := by
  have HC := Lib.hid (rwithin_c 0 d w ⟨by decide, by decide⟩ hd)
  unfold rightB
  have a1 : -9223372036854775808 ≤ n := hn.1
  have a2 : n ≤ 9223372036854775807 := hn.2
  go_enter Try.func28, Try.ntmps28
  by_cases h1 : 0 ≤ n
  · by_cases h2 : n ≤ 1099511627776
    · go_wp2_with fail
      refine HC.out.mono ?_
      rintro e w1 ⟨rfl, rfl⟩
      go_wp2_with fail
      go_ret
      refine ⟨?_, rfl⟩
      rw [decide_eq_true h1, decide_eq_true (show n ≤ T40 from h2)]; rfl
    · go_wp2_with fail
      go_ret
      refine ⟨?_, rfl⟩
      rw [decide_eq_false (show ¬ (n ≤ 1099511627776) by omega)]; simp
  · go_wp2_with fail
    go_ret
    refine ⟨?_, rfl⟩
    rw [decide_eq_false (show ¬ (0 ≤ n) by omega)]; simp
/-- 64 bits bear what a turn is asked of -/
theorem turn_mul {u r : Int} (hu : 0 ≤ u ∧ u ≤ T40) (hr : -500 ≤ r ∧ r ≤ 500) : 0 ≤ u * (1000 + r) ∧ u * (1000 + r) ≤ 1649267441664000 := by
  refine ⟨Int.mul_nonneg hu.1 (by omega), ?_⟩
  have h1 : u * (1000 + r) ≤ u * 1500 := Int.mul_le_mul_of_nonneg_left (by omega) hu.1
  have h2 : T40 = 1099511627776 := rfl
  omega
theorem turn_bad {c u r : Int} (h : turnOk c u r = false) : turnP c u r = (0, 1) := by unfold turnP; rw [h, if_pos rfl]
set_option maxHeartbeats 1000000 in
theorem rturn_c (c u r : Int) (w : World) (hc : I64 c) (hu : I64 u) (hr : I64 r) :
    Calls Try.prog 10 #[.int .i64 c, .int .i64 u, .int .i64 r] w fun e w' => e = .returned (.tuple #[.int .i64 (turnP c u r).1, .int .i64 ((turnP c u r).2 : Nat)]) ∧ w = w' := by
  have HC := Lib.hid (rwithin_c r 500 w hr ⟨by decide, by decide⟩)
  have a1 : -9223372036854775808 ≤ c := hc.1
  have a2 : c ≤ 9223372036854775807 := hc.2
  have a3 : -9223372036854775808 ≤ u := hu.1
  have a4 : u ≤ 9223372036854775807 := hu.2
  have a5 : -9223372036854775808 ≤ r := hr.1
  have a6 : r ≤ 9223372036854775807 := hr.2
  by_cases h1 : 0 ≤ u
  · by_cases h2 : u ≤ 1099511627776
    · cases h3 : withinB r 500 with
      | true =>
        rw [h3] at HC
        have h3' := (within_iff.1 h3).2.2
        by_cases h4 : 0 ≤ c
        · by_cases h5 : c ≤ 1099511627776000
          · have hok : turnOk c u r = true := by
              unfold turnOk
              rw [decide_eq_true h1, decide_eq_true (show u ≤ T40 from h2), h3, decide_eq_true h4, decide_eq_true (show c ≤ 1000 * T40 from h5)]; rfl
            obtain ⟨m, hm⟩ : ∃ m, u * (1000 + r) = m := ⟨_, rfl⟩
            have h6 := turn_mul ⟨h1, h2⟩ h3'
            have hT : turnP c u r = if 1000 * T40 < c + m then (0, 6) else (c + m, 0) := by unfold turnP; rw [hok, if_neg (by decide), hm]
            rw [hm] at h6
            have i1 : IntKind.i64.wrap (1000 + r) = 1000 + r := by rw [IntKind.wrap_i64]; omega
            have W2 : Hid (wrap64 m = m) := by show _ = _; unfold wrap64; omega
            have W3 : Hid (wrap64 (c + m) = c + m) := by show _ = _; unfold wrap64; omega
            clear hok
            rw [hT]
            clear hT
            have HM := Lib.hid hm
            clear hm
            by_cases h7 : 1099511627776000 < c + m
            · rw [if_pos (show 1000 * T40 < c + m from h7)]
              go_enter Try.func10, Try.ntmps10
              go_wp2_with fail
              refine HC.out.mono ?_
              rintro e w1 ⟨rfl, rfl⟩
              go_wp2_with (first | rw [HM.out, W2.out] | rw [W3.out])
              go_ret2
              exact ⟨rfl, rfl⟩
            · rw [if_neg (show ¬ (1000 * T40 < c + m) from h7)]
              go_enter Try.func10, Try.ntmps10
              go_wp2_with fail
              refine HC.out.mono ?_
              rintro e w1 ⟨rfl, rfl⟩
              go_wp2_with (first | rw [HM.out, W2.out] | rw [W3.out])
              go_ret2
              exact ⟨rfl, rfl⟩
          · have hT := turn_bad (c := c) (u := u) (r := r) (by unfold turnOk; rw [decide_eq_false (show ¬ (c ≤ 1000 * 1099511627776) by omega)]; simp)
            rw [hT]
            clear hT
            go_enter Try.func10, Try.ntmps10
            go_wp2_with fail
            refine HC.out.mono ?_
            rintro e w1 ⟨rfl, rfl⟩
            go_wp2_with fail
            go_ret2
            exact ⟨rfl, rfl⟩
        · have hT := turn_bad (c := c) (u := u) (r := r) (by unfold turnOk; rw [decide_eq_false (show ¬ (0 ≤ c) by omega)]; simp)
          rw [hT]
          clear hT
          go_enter Try.func10, Try.ntmps10
          go_wp2_with fail
          refine HC.out.mono ?_
          rintro e w1 ⟨rfl, rfl⟩
          go_wp2_with fail
          go_ret2
          exact ⟨rfl, rfl⟩
      | false =>
        rw [h3] at HC
        have hT := turn_bad (c := c) (u := u) (r := r) (by unfold turnOk; rw [h3]; simp)
        rw [hT]
        clear hT
        go_enter Try.func10, Try.ntmps10
        go_wp2_with fail
        refine HC.out.mono ?_
        rintro e w1 ⟨rfl, rfl⟩
        go_wp2_with fail
        go_ret2
        exact ⟨rfl, rfl⟩
    · have hT := turn_bad (c := c) (u := u) (r := r) (by unfold turnOk; rw [decide_eq_false (show ¬ (u ≤ 1099511627776) by omega)]; simp)
      rw [hT]
      clear hT
      go_enter Try.func10, Try.ntmps10
      go_wp2_with fail
      go_ret2
      exact ⟨rfl, rfl⟩
  · have hT := turn_bad (c := c) (u := u) (r := r) (by unfold turnOk; rw [decide_eq_false (show ¬ (0 ≤ u) by omega)]; simp)
    rw [hT]
    clear hT
    go_enter Try.func10, Try.ntmps10
    go_wp2_with fail
    go_ret2
    exact ⟨rfl, rfl⟩
end Go.Proofs.Ytidgmobnclchkaa.dri
