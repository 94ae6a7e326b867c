/- The developers' calls of drift: Turn, against, Live, Over; the_dapi: DApi of no condition. -/
import Derived.Test.YtidgmobnclchkaaDrd1
namespace Go.Proofs.Ytidgmobnclchkaa.dri
open Go.RowKit
open Go.Proofs.Ytidgmobnclchkaa.oct Go.Proofs.Ytidgmobnclchkaa.ref Go.Proofs.Ytidgmobnclchkaa.rows

set_option maxHeartbeats 2000000 in
theorem dturn_c (c u r : Int) (w : World) (hc : I64 c) (hu : I64 u) (hr : I64 r) :
    Calls Try.prog 9 #[clk c, .int .i64 u, .int .i64 r] w fun e w' => e = .returned (.tuple #[clk (turnP c u r).1, .int .i64 ((turnP c u r).2 : Nat)]) ∧ Below w.heap.size w w' := by
  have HT := Lib.hid (fun w => dterm_c u w hu)
  have HC := Lib.hid (fun w => dwithin_c r 500 w hr ⟨by decide, by decide⟩)
  have a1 : -9223372036854775808 ≤ c := hc.1
  have a2 : c ≤ 9223372036854775807 := hc.2
  have a5 : -9223372036854775808 ≤ r := hr.1
  have a6 : r ≤ 9223372036854775807 := hr.2
  cases ht : termB u with
  | true =>
    rw [ht] at HT
    obtain ⟨h1, h2⟩ := term_iff.1 ht
    clear ht
    cases h3 : withinB r 500 with
    | true =>
      rw [h3] at HC
      have h3' := (within_iff.1 h3).2.2
      by_cases h4 : 0 ≤ c
      · by_cases h5 : c ≤ 1099511627776000
        · have hok : turnOk c u r = true := by
            unfold turnOk
            rw [decide_eq_true h1, decide_eq_true (show u ≤ T40 from h2), h3, decide_eq_true h4, decide_eq_true (show c ≤ 1000 * T40 from h5)]; rfl
          obtain ⟨m, hm⟩ : ∃ m, u * (1000 + r) = m := ⟨_, rfl⟩
          have h6 := turn_mul ⟨h1, h2⟩ h3'
          have hT : turnP c u r = if 1000 * T40 < c + m then (0, 6) else (c + m, 0) := by unfold turnP; rw [hok, if_neg (by decide), hm]
          rw [hm] at h6
          have i1 : IntKind.i64.wrap (1000 + r) = 1000 + r := by rw [IntKind.wrap_i64]; omega
          have W2 : Hid (wrap64 m = m) := by show _ = _; unfold wrap64; omega
          have W3 : Hid (wrap64 (c + m) = c + m) := by show _ = _; unfold wrap64; omega
          clear hok
          rw [hT]
          clear hT
          have HM := Lib.hid hm
          clear hm
          by_cases h7 : 1099511627776000 < c + m
          · rw [if_pos (show 1000 * T40 < c + m from h7)]
            go_enter Try.func9, Try.ntmps9
            go_wp2_with fail
            refine (HT.out _).mono ?_
            rintro e w1 ⟨rfl, rfl⟩
            go_wp2_with fail
            refine (HC.out _).mono ?_
            rintro e w1 ⟨rfl, rfl⟩
            go_wp2_with (first | rw [HM.out, W2.out] | rw [W3.out])
            refine bodyPost_ret (results_rowtmpD Try.results9 _ _ (w.heap.size + 1) 23 [.int .i64 0] _ rfl rfl ?_ Try.underlying23 rfl (by kernel_rfl)) rfl ?_
            · exact two_blk w _ _
            · exact ⟨rfl, two_below w _ _⟩
          · rw [if_neg (show ¬ (1000 * T40 < c + m) from h7)]
            go_enter Try.func9, Try.ntmps9
            go_wp2_with fail
            refine (HT.out _).mono ?_
            rintro e w1 ⟨rfl, rfl⟩
            go_wp2_with fail
            refine (HC.out _).mono ?_
            rintro e w1 ⟨rfl, rfl⟩
            go_wp2_with (first | rw [HM.out, W2.out] | rw [W3.out])
            refine bodyPost_ret (results_rowtmpD Try.results9 _ _ (w.heap.size + 1) 23 [.int .i64 (c + m)] _ rfl rfl ?_ Try.underlying23 rfl (by kernel_rfl)) rfl ?_
            · exact two_blk w _ _
            · exact ⟨rfl, two_below w _ _⟩
        · have hT := turn_bad (c := c) (u := u) (r := r) (by unfold turnOk; rw [decide_eq_false (show ¬ (c ≤ 1000 * 1099511627776) by omega)]; simp)
          rw [hT]
          clear hT
          go_enter Try.func9, Try.ntmps9
          go_wp2_with fail
          refine (HT.out _).mono ?_
          rintro e w1 ⟨rfl, rfl⟩
          go_wp2_with fail
          refine (HC.out _).mono ?_
          rintro e w1 ⟨rfl, rfl⟩
          go_wp2_with fail
          refine bodyPost_ret (results_rowtmpD Try.results9 _ _ (w.heap.size + 1) 23 [.int .i64 0] _ rfl rfl ?_ Try.underlying23 rfl (by kernel_rfl)) rfl ?_
          · exact two_blk w c _
          · exact ⟨rfl, two_below w c _⟩
      · have hT := turn_bad (c := c) (u := u) (r := r) (by unfold turnOk; rw [decide_eq_false (show ¬ (0 ≤ c) by omega)]; simp)
        rw [hT]
        clear hT
        go_enter Try.func9, Try.ntmps9
        go_wp2_with fail
        refine (HT.out _).mono ?_
        rintro e w1 ⟨rfl, rfl⟩
        go_wp2_with fail
        refine (HC.out _).mono ?_
        rintro e w1 ⟨rfl, rfl⟩
        go_wp2_with fail
        refine bodyPost_ret (results_rowtmpD Try.results9 _ _ (w.heap.size + 1) 23 [.int .i64 0] _ rfl rfl ?_ Try.underlying23 rfl (by kernel_rfl)) rfl ?_
        · exact two_blk w c _
        · exact ⟨rfl, two_below w c _⟩
    | false =>
      rw [h3] at HC
      have hT := turn_bad (c := c) (u := u) (r := r) (by unfold turnOk; rw [h3]; simp)
      rw [hT]
      clear hT
      go_enter Try.func9, Try.ntmps9
      go_wp2_with fail
      refine (HT.out _).mono ?_
      rintro e w1 ⟨rfl, rfl⟩
      go_wp2_with fail
      refine (HC.out _).mono ?_
      rintro e w1 ⟨rfl, rfl⟩
      go_wp2_with fail
      refine bodyPost_ret (results_rowtmpD Try.results9 _ _ (w.heap.size + 1) 23 [.int .i64 0] _ rfl rfl ?_ Try.underlying23 rfl (by kernel_rfl)) rfl ?_
      · exact two_blk w c _
      · exact ⟨rfl, two_below w c _⟩
  | false =>
    rw [ht] at HT
    have hT := turn_bad (c := c) (u := u) (r := r) (by
      have h : (decide (0 ≤ u) && decide (u ≤ T40)) = false := ht
      unfold turnOk; rw [h]; simp)
    rw [hT]
    clear hT
    go_enter Try.func9, Try.ntmps9
    go_wp2_with fail
    refine (HT.out _).mono ?_
    rintro e w1 ⟨rfl, rfl⟩
    go_wp2_with fail
    refine bodyPost_ret (results_rowtmpD Try.results9 _ _ (w.heap.size + 1) 23 [.int .i64 0] _ rfl rfl ?_ Try.underlying23 rfl (by kernel_rfl)) rfl ?_
    · exact two_blk w c _
    · exact ⟨rfl, two_below w c _⟩
/-- how one int stands to another: -1, 0, 1 -/
def cmpP (a b : Int) : Int := if a < b then -1 else if b < a then 1 else 0
theorem nan_c (a : Int) (w : World) :
    Calls Try.prog 33 #[.int .i64 a] w fun e w' => e = .returned (.bool false) ∧ w = w' := by
  go_enter Try.func33, Try.ntmps33
  go_wp2_with fail
  go_ret
  exact ⟨by simp, rfl⟩
theorem cmp_c (a b : Int) (w : World) (ha : I64 a) (hb : I64 b) :
    Calls Try.prog 32 #[.int .i64 a, .int .i64 b] w fun e w' => e = .returned (.int .i64 (cmpP a b)) ∧ w = w' := by
  have H1 := Lib.hid (nan_c a w)
  have H2 := Lib.hid (nan_c b w)
  have a1 : -9223372036854775808 ≤ a := ha.1
  have a2 : a ≤ 9223372036854775807 := ha.2
  have a3 : -9223372036854775808 ≤ b := hb.1
  have a4 : b ≤ 9223372036854775807 := hb.2
  have three : ∀ v, cmpP a b = v → Calls Try.prog 32 #[.int .i64 a, .int .i64 b] w fun e w' => e = .returned (.int .i64 v) ∧ w = w' := by
    intro v hv
    unfold cmpP at hv
    by_cases h : a < b
    · rw [if_pos h] at hv
      subst hv
      go_enter Try.func32, Try.ntmps32
      go_wp2_with fail
      refine H1.out.mono ?_
      rintro e w1 ⟨rfl, rfl⟩
      go_wp2_with fail
      refine H2.out.mono ?_
      rintro e w1 ⟨rfl, rfl⟩
      go_wp2_with fail
      go_ret
      exact ⟨rfl, rfl⟩
    · rw [if_neg h] at hv
      by_cases h' : b < a
      · rw [if_pos h'] at hv
        subst hv
        go_enter Try.func32, Try.ntmps32
        go_wp2_with fail
        refine H1.out.mono ?_
        rintro e w1 ⟨rfl, rfl⟩
        go_wp2_with fail
        refine H2.out.mono ?_
        rintro e w1 ⟨rfl, rfl⟩
        go_wp2_with fail
        go_ret
        exact ⟨rfl, rfl⟩
      · rw [if_neg h'] at hv
        subst hv
        go_enter Try.func32, Try.ntmps32
        go_wp2_with fail
        refine H1.out.mono ?_
        rintro e w1 ⟨rfl, rfl⟩
        go_wp2_with fail
        refine H2.out.mono ?_
        rintro e w1 ⟨rfl, rfl⟩
        go_wp2_with fail
        go_ret
        exact ⟨rfl, rfl⟩
  exact three _ rfl
set_option maxHeartbeats 1000000 in
theorem against_c (n s t : Int) (w : World) (hn : I64 n) (hs : I64 s) (ht : I64 t) :
    Calls Try.prog 30 #[.int .i64 n, .int .i64 s, .int .i64 t] w fun e w' => e = .returned (.int .i64 (cmpP n (s + t))) ∧ w = w' := by
  have a1 : -9223372036854775808 ≤ s := hs.1
  have a2 : s ≤ 9223372036854775807 := hs.2
  have a3 : -9223372036854775808 ≤ n := hn.1
  have a4 : n ≤ 9223372036854775807 := hn.2
  have a5 : -9223372036854775808 ≤ t := ht.1
  have a6 : t ≤ 9223372036854775807 := ht.2
  obtain ⟨x, hx⟩ : ∃ x, cmpP n (s + t) = x := ⟨_, rfl⟩
  rw [hx]
  by_cases h1 : I64 (s + t)
  · have HC := Lib.hid (cmp_c n (s + t) w hn h1)
    rw [hx] at HC
    have b1 : -9223372036854775808 ≤ s + t := h1.1
    have b2 : s + t ≤ 9223372036854775807 := h1.2
    clear h1 hx
    rcases Int.lt_trichotomy t 0 with h2 | h2 | h2
    · have n1 : ¬ (0 < t) := by omega
      go_enter Try.func30, Try.ntmps30
      go_wp2_with fail
      refine HC.out.mono ?_
      rintro e w1 ⟨rfl, rfl⟩
      go_wp2_with fail
      go_ret
      exact ⟨rfl, rfl⟩
    · have n1 : ¬ (0 < t) := by omega
      have n2 : ¬ (t < 0) := by omega
      have n3 : t ≤ 0 := by omega
      have n4 : 0 ≤ t := by omega
      clear h2
      go_enter Try.func30, Try.ntmps30
      go_wp2_with fail
      refine HC.out.mono ?_
      rintro e w1 ⟨rfl, rfl⟩
      go_wp2_with fail
      go_ret
      exact ⟨rfl, rfl⟩
    · go_enter Try.func30, Try.ntmps30
      go_wp2_with fail
      refine HC.out.mono ?_
      rintro e w1 ⟨rfl, rfl⟩
      go_wp2_with fail
      go_ret
      exact ⟨rfl, rfl⟩
  · by_cases h2 : 0 < t
    · have h3 : 9223372036854775807 < s + t := by omega
      have hv : x = -1 := by rw [← hx]; unfold cmpP; rw [if_pos (by omega)]
      subst hv
      clear h1 hx
      go_enter Try.func30, Try.ntmps30
      go_wp2_with fail
      go_ret
      exact ⟨rfl, rfl⟩
    · have h3 : s + t < -9223372036854775808 := by omega
      have hv : x = 1 := by rw [← hx]; unfold cmpP; rw [if_neg (by omega), if_pos (by omega)]
      subst hv
      clear h1 hx
      go_enter Try.func30, Try.ntmps30
      go_wp2_with fail
      go_ret
      exact ⟨rfl, rfl⟩
theorem dlive_c (s n k : Int) (w : World) (hs : I64 s) (hn : I64 n) (hk : I64 k) :
    Calls Try.prog 22 #[.int .i64 s, .int .i64 n, .int .i64 k] w fun e w' => e = .returned (.bool (liveP s n k)) ∧ w = w' := by
  have HA := Lib.hid (against_c n s k w hn hs hk)
  obtain ⟨x, hx⟩ : ∃ x, cmpP n (s + k) = x := ⟨_, rfl⟩
  have b : (decide (n < s + k) = decide (x < 0)) ∧ -1 ≤ x ∧ x ≤ 1 := by
    rw [← hx]; unfold cmpP
    by_cases h : n < s + k
    · rw [if_pos h]; exact ⟨by rw [decide_eq_true h]; rfl, by omega, by omega⟩
    · rw [if_neg h, decide_eq_false h]; split <;> exact ⟨by rfl, by omega, by omega⟩
  unfold liveP
  rw [b.1]
  have b1 := b.2.1
  have b2 := b.2.2
  rw [hx] at HA
  have a1 : -9223372036854775808 ≤ s := hs.1
  have a2 : s ≤ 9223372036854775807 := hs.2
  have a3 : -9223372036854775808 ≤ n := hn.1
  have a4 : n ≤ 9223372036854775807 := hn.2
  clear b hx
  go_enter Try.func22, Try.ntmps22
  by_cases h1 : s ≤ n
  · rw [decide_eq_true h1]
    go_wp2_with fail
    refine HA.out.mono ?_
    rintro e w1 ⟨rfl, rfl⟩
    go_wp2_with fail
    go_ret
    exact ⟨rfl, rfl⟩
  · rw [decide_eq_false h1]
    go_wp2_with fail
    go_ret
    exact ⟨rfl, rfl⟩
theorem dover_c (s n t : Int) (w : World) (hs : I64 s) (hn : I64 n) (ht : I64 t) :
    Calls Try.prog 24 #[.int .i64 s, .int .i64 n, .int .i64 t] w fun e w' => e = .returned (.bool (overP s n t)) ∧ w = w' := by
  have HA := Lib.hid (against_c n s t w hn hs ht)
  obtain ⟨x, hx⟩ : ∃ x, cmpP n (s + t) = x := ⟨_, rfl⟩
  have b : (decide (s + t < n) = decide (0 < x)) ∧ -1 ≤ x ∧ x ≤ 1 := by
    rw [← hx]; unfold cmpP
    by_cases h : n < s + t
    · rw [if_pos h]; exact ⟨by rw [decide_eq_false (by omega)]; rfl, by omega, by omega⟩
    · rw [if_neg h]
      by_cases h' : s + t < n
      · rw [if_pos h', decide_eq_true h']; exact ⟨by rfl, by omega, by omega⟩
      · rw [if_neg h', decide_eq_false h']; exact ⟨by rfl, by omega, by omega⟩
  unfold overP
  rw [b.1]
  have b1 := b.2.1
  have b2 := b.2.2
  rw [hx] at HA
  clear b hx
  go_enter Try.func24, Try.ntmps24
  go_wp2_with fail
  refine HA.out.mono ?_
  rintro e w1 ⟨rfl, rfl⟩
  go_wp2_with fail
  go_ret
  exact ⟨rfl, rfl⟩
theorem same_below {w w' : World} {e : Ending} {v : Value} (h : e = .returned v ∧ w = w') : e = .returned v ∧ Below w.heap.size w w' := ⟨h.1, by rw [← h.2]; exact Below.refl _ _⟩
theorem the_dapi : DApi (fun _ => True) where
  tbelow := fun _ _ _ _ => trivial
  within := fun r d w _ hr hd => (dwithin_c r d w hr hd).mono fun _ _ h => same_below h
  read := fun c w _ hc => dread_c c w hc
  turn := fun c u r w _ hc hu hr => dturn_c c u r w hc hu hr
  least := fun n d w _ hn hd => (dleast_c n d w hn hd).mono fun _ _ h => same_below h
  most := fun n d w _ hn hd => (dmost_c n d w hn hd).mono fun _ _ h => same_below h
  short := fun n d w _ hn hd => (dshort_c n d w hn hd).mono fun _ _ h => same_below h
  live := fun s n k w _ hs hn hk => (dlive_c s n k w hs hn hk).mono fun _ _ h => same_below h
  over := fun s n t w _ hs hn ht => (dover_c s n t w hs hn ht).mono fun _ _ h => same_below h
end Go.Proofs.Ytidgmobnclchkaa.dri
