/- The developers' calls of drift: the_dapi, DApi of no condition. -/
import Derived.Test.YtidgmobnclchkaaDriApi
namespace Go.Proofs.Ytidgmobnclchkaa.dri
open Go.RowKit
open Go.Proofs.Ytidgmobnclchkaa.oct Go.Proofs.Ytidgmobnclchkaa.ref Go.Proofs.Ytidgmobnclchkaa.rows

theorem results_rowtmpD {P : Program} {fn : Func} {p q : Tmp} {ty : TypeId} (h : fn.results = #[.cell p ty, .tmp q]) (tmps : Array Value) (w : World) (g : Nat) (t : TypeId) (X : List Value) (u : Value) {d : TypeDesc}
    (hp : tmps.getD p undef = .pointer (some ⟨g, 0, none⟩)) (hq : tmps.getD q undef = u) (hB : Blk w g t X) (hu : P.underlying ty = some d) (hd : (match d with | .struct _ | .array _ _ => true | _ => false) = true) (hi : (P.info? ty).map (·.size) = some X.length) :
    (results fn tmps).run P w = .ok (.tuple #[.agg X.toArray, u]) w := by
  have hp' : tmps[p]?.getD undef = .pointer (some ⟨g, 0, none⟩) := by simpa using hp
  have hq' : tmps[q]?.getD undef = u := by simpa using hq
  have hl := run_loadVar_row (P := P) w g t ty X.toArray (0, 0) d hB hu hd (by simpa using hi)
  simp [results, h, hp', hq', asAddr, hl]
/-- the clock's box and the answer's -/
theorem two_blk (w : World) (c v : Int) : Blk ((w.alloc (.cells #[.int .i64 c] 23)).alloc (.cells #[.int .i64 v] 23)) (w.heap.size + 1) 23 [.int .i64 v] := by
  have h := blk_new (w.alloc (.cells #[.int .i64 c] 23)) #[.int .i64 v] 23 [.int .i64 v] rfl
  rw [show (w.alloc (.cells #[.int .i64 c] 23)).heap.size = w.heap.size + 1 by simp] at h
  exact h
theorem two_below (w : World) (c v : Int) : Below w.heap.size w ((w.alloc (.cells #[.int .i64 c] 23)).alloc (.cells #[.int .i64 v] 23)) := by
  have h := (Below.refl w.heap.size w).alloc (Nat.le_refl _) (.cells #[.int .i64 c] 23)
  exact h.alloc h.size _
def termB (n : Int) : Bool := decide (0 ≤ n) && decide (n ≤ 1099511627776)
def driftB (n : Int) : Bool := decide (0 ≤ n) && decide (n ≤ 500)
theorem term_iff {n : Int} : termB n = true ↔ 0 ≤ n ∧ n ≤ 1099511627776 := by simp [termB]
theorem drift_iff {n : Int} : driftB n = true ↔ 0 ≤ n ∧ n ≤ 500 := by simp [driftB]
theorem dterm_c (n : Int) (w : World) (hn : I64 n) :
    Calls Try.prog 26 #[.int .i64 n] w fun e w' => e = .returned (.bool (termB n)) ∧ w = w' := by
  unfold termB
  have a1 : -9223372036854775808 ≤ n := hn.1
  have a2 : n ≤ 9223372036854775807 := hn.2
  go_enter Try.func26, Try.ntmps26
  by_cases h1 : 0 ≤ n
  · go_wp2_with fail
    go_ret
    exact ⟨by rw [decide_eq_true h1]; rfl, rfl⟩
  · go_wp2_with fail
    go_ret
    exact ⟨by rw [decide_eq_false (show ¬ (0 ≤ n) by omega)]; rfl, rfl⟩
theorem ddrift_c (n : Int) (w : World) (hn : I64 n) :
    Calls Try.prog 27 #[.int .i64 n] w fun e w' => e = .returned (.bool (driftB n)) ∧ w = w' := by
  unfold driftB
  have a1 : -9223372036854775808 ≤ n := hn.1
  have a2 : n ≤ 9223372036854775807 := hn.2
  go_enter Try.func27, Try.ntmps27
  by_cases h1 : 0 ≤ n
  · go_wp2_with fail
    go_ret
    exact ⟨by rw [decide_eq_true h1]; rfl, rfl⟩
  · go_wp2_with fail
    go_ret
    exact ⟨by rw [decide_eq_false (show ¬ (0 ≤ n) by omega)]; rfl, rfl⟩
set_option maxHeartbeats 1000000 in
theorem dwithin_c (r d : Int) (w : World) (hr : I64 r) (hd : I64 d) :
    Calls Try.prog 14 #[.int .i64 r, .int .i64 d] w fun e w' => e = .returned (.bool (withinB r d)) ∧ w = w' := by
  have HD := Lib.hid (ddrift_c d w hd)
  unfold withinB
  have a1 : -9223372036854775808 ≤ r := hr.1
  have a2 : r ≤ 9223372036854775807 := hr.2
  have a3 : -9223372036854775808 ≤ d := hd.1
  have a4 : d ≤ 9223372036854775807 := hd.2
  cases h : driftB d with
  | false =>
    rw [h] at HD
    go_enter Try.func14, Try.ntmps14
    go_wp2_with fail
    refine HD.out.mono ?_
    rintro e w1 ⟨rfl, rfl⟩
    go_wp2_with fail
    go_ret
    refine ⟨?_, rfl⟩
    have h' : (decide (0 ≤ d) && decide (d ≤ 500)) = false := h
    rw [h']; rfl
  | true =>
    rw [h] at HD
    obtain ⟨h1, h2⟩ := drift_iff.1 h
    clear h
    have i1 : IntKind.i64.wrap (-d) = -d := by rw [IntKind.wrap_i64]; omega
    by_cases h3 : -d ≤ r
    · go_enter Try.func14, Try.ntmps14
      go_wp2_with fail
      refine HD.out.mono ?_
      rintro e w1 ⟨rfl, rfl⟩
      go_wp2_with fail
      go_ret
      refine ⟨?_, rfl⟩
      rw [decide_eq_true h1, decide_eq_true h2, decide_eq_true h3]; rfl
    · go_enter Try.func14, Try.ntmps14
      go_wp2_with fail
      refine HD.out.mono ?_
      rintro e w1 ⟨rfl, rfl⟩
      go_wp2_with fail
      go_ret
      refine ⟨?_, rfl⟩
      rw [decide_eq_false (show ¬ (-d ≤ r) by omega)]; simp
set_option maxHeartbeats 1000000 in
theorem dread_c (c : Int) (w : World) (hc : I64 c) :
    Calls Try.prog 12 #[clk c] w fun e w' => e = .returned (.int .i64 (readP c)) ∧ Below w.heap.size w w' := by
  unfold readP
  have a1 : -9223372036854775808 ≤ c := hc.1
  have a2 : c ≤ 9223372036854775807 := hc.2
  go_enter Try.func12, Try.ntmps12
  by_cases h : c < 0
  · rw [if_pos h]
    have m1 : max c 0 = 0 := by omega
    go_wp2_with (rw [m1])
    go_ret
    exact ⟨rfl, (Below.refl _ _).alloc (Nat.le_refl _) _⟩
  · rw [if_neg h]
    have m1 : max c 0 = c := by omega
    have i1 : c.tdiv 1000 = c / 1000 := Int.tdiv_eq_ediv_of_nonneg (by omega)
    go_wp2_with (rw [m1])
    go_ret
    exact ⟨rfl, (Below.refl _ _).alloc (Nat.le_refl _) _⟩
/-- what stands ahead of a call that is asked of a term and a drift -/
theorem right_td (n d : Int) : rightB n d = (termB n && driftB d) := by
  cases h : rightB n d with
  | true => obtain ⟨⟨h1, h2⟩, h3, h4⟩ := right_iff.1 h; rw [(term_iff).2 ⟨h1, h2⟩, (drift_iff).2 ⟨by omega, by omega⟩]; rfl
  | false =>
    cases h1 : termB n with
    | false => rfl
    | true =>
      cases h2 : driftB d with
      | false => rfl
      | true =>
        have t := term_iff.1 h1
        have u := drift_iff.1 h2
        have := right_iff.2 ⟨⟨t.1, (t.2 : n ≤ T40)⟩, u.1, u.2⟩
        rw [h] at this; cases this
set_option maxHeartbeats 1000000 in
theorem dleast_c (n d : Int) (w : World) (hn : I64 n) (hd : I64 d) :
    Calls Try.prog 16 #[.int .i64 n, .int .i64 d] w fun e w' => e = .returned (.tuple #[.int .i64 (leastP n d).1, .int .i64 ((leastP n d).2 : Nat)]) ∧ w = w' := by
  have HT := Lib.hid (dterm_c n w hn)
  have HD := Lib.hid (ddrift_c d w hd)
  unfold leastP
  rw [right_td]
  cases hx : termB n with
  | false =>
    rw [hx] at HT
    rw [if_neg (by simp)]
    go_enter Try.func16, Try.ntmps16
    go_wp2_with fail
    refine HT.out.mono ?_
    rintro e w1 ⟨rfl, rfl⟩
    go_wp2_with fail
    go_ret2
    exact ⟨rfl, rfl⟩
  | true =>
    rw [hx] at HT
    obtain ⟨h1, h2⟩ := term_iff.1 hx
    clear hx
    cases hy : driftB d with
    | false =>
      rw [hy] at HD
      rw [if_neg (by simp)]
      go_enter Try.func16, Try.ntmps16
      go_wp2_with fail
      refine HT.out.mono ?_
      rintro e w1 ⟨rfl, rfl⟩
      go_wp2_with fail
      refine HD.out.mono ?_
      rintro e w1 ⟨rfl, rfl⟩
      go_wp2_with fail
      go_ret2
      exact ⟨rfl, rfl⟩
    | true =>
      rw [hy] at HD
      obtain ⟨h3, h4⟩ := drift_iff.1 hy
      clear hy
      rw [show (true && true) = true from rfl, if_pos rfl]
      rw [Int.mul_comm 1000 n]
      obtain ⟨q, hq⟩ : ∃ q, (n * 1000 + (1000 + d) - 1) / (1000 + d) = q := ⟨_, rfl⟩
      have hq0 : 0 ≤ q := by rw [← hq]; exact Int.ediv_nonneg (by omega) (by omega)
      have hq1 : q ≤ n * 1000 + (1000 + d) - 1 := by rw [← hq]; exact Int.ediv_le_self _ (by omega)
      have i1 : (n * 1000 + (1000 + d) - 1).tdiv (1000 + d) = q := by rw [Int.tdiv_eq_ediv_of_nonneg (by omega), hq]
      rw [hq]
      have HQ := Lib.hid hq
      clear hq
      go_enter Try.func16, Try.ntmps16
      go_wp2_with fail
      refine HT.out.mono ?_
      rintro e w1 ⟨rfl, rfl⟩
      go_wp2_with fail
      refine HD.out.mono ?_
      rintro e w1 ⟨rfl, rfl⟩
      go_wp2_with (first | rw [i1] | rw [HQ.out])
      go_ret2
      exact ⟨rfl, rfl⟩
set_option maxHeartbeats 1000000 in
theorem dmost_c (n d : Int) (w : World) (hn : I64 n) (hd : I64 d) :
    Calls Try.prog 17 #[.int .i64 n, .int .i64 d] w fun e w' => e = .returned (.tuple #[.int .i64 (mostP n d).1, .int .i64 ((mostP n d).2 : Nat)]) ∧ w = w' := by
  have HT := Lib.hid (dterm_c n w hn)
  have HD := Lib.hid (ddrift_c d w hd)
  unfold mostP
  rw [right_td]
  cases hx : termB n with
  | false =>
    rw [hx] at HT
    rw [if_neg (by simp)]
    go_enter Try.func17, Try.ntmps17
    go_wp2_with fail
    refine HT.out.mono ?_
    rintro e w1 ⟨rfl, rfl⟩
    go_wp2_with fail
    go_ret2
    exact ⟨rfl, rfl⟩
  | true =>
    rw [hx] at HT
    obtain ⟨h1, h2⟩ := term_iff.1 hx
    clear hx
    cases hy : driftB d with
    | false =>
      rw [hy] at HD
      rw [if_neg (by simp)]
      go_enter Try.func17, Try.ntmps17
      go_wp2_with fail
      refine HT.out.mono ?_
      rintro e w1 ⟨rfl, rfl⟩
      go_wp2_with fail
      refine HD.out.mono ?_
      rintro e w1 ⟨rfl, rfl⟩
      go_wp2_with fail
      go_ret2
      exact ⟨rfl, rfl⟩
    | true =>
      rw [hy] at HD
      obtain ⟨h3, h4⟩ := drift_iff.1 hy
      clear hy
      rw [show (true && true) = true from rfl, if_pos rfl]
      rw [Int.mul_comm 1000 n]
      obtain ⟨q, hq⟩ : ∃ q, (n * 1000) / (1000 - d) = q := ⟨_, rfl⟩
      have hq0 : 0 ≤ q := by rw [← hq]; exact Int.ediv_nonneg (by omega) (by omega)
      have hq1 : q ≤ n * 1000 := by rw [← hq]; exact Int.ediv_le_self _ (by omega)
      have i1 : (n * 1000).tdiv (1000 - d) = q := by rw [Int.tdiv_eq_ediv_of_nonneg (by omega), hq]
      rw [hq]
      have HQ := Lib.hid hq
      clear hq
      go_enter Try.func17, Try.ntmps17
      go_wp2_with fail
      refine HT.out.mono ?_
      rintro e w1 ⟨rfl, rfl⟩
      go_wp2_with fail
      refine HD.out.mono ?_
      rintro e w1 ⟨rfl, rfl⟩
      go_wp2_with (first | rw [i1] | rw [HQ.out])
      go_ret2
      exact ⟨rfl, rfl⟩
set_option maxHeartbeats 1000000 in
theorem dshort_c (n d : Int) (w : World) (hn : I64 n) (hd : I64 d) :
    Calls Try.prog 18 #[.int .i64 n, .int .i64 d] w fun e w' => e = .returned (.tuple #[.int .i64 (shortP n d).1, .int .i64 ((shortP n d).2 : Nat)]) ∧ w = w' := by
  have HT := Lib.hid (dterm_c n w hn)
  have HD := Lib.hid (ddrift_c d w hd)
  unfold shortP
  rw [right_td]
  cases hx : termB n with
  | false =>
    rw [hx] at HT
    rw [if_neg (by simp)]
    go_enter Try.func18, Try.ntmps18
    go_wp2_with fail
    refine HT.out.mono ?_
    rintro e w1 ⟨rfl, rfl⟩
    go_wp2_with fail
    go_ret2
    exact ⟨rfl, rfl⟩
  | true =>
    rw [hx] at HT
    obtain ⟨h1, h2⟩ := term_iff.1 hx
    clear hx
    cases hy : driftB d with
    | false =>
      rw [hy] at HD
      rw [if_neg (by simp)]
      go_enter Try.func18, Try.ntmps18
      go_wp2_with fail
      refine HT.out.mono ?_
      rintro e w1 ⟨rfl, rfl⟩
      go_wp2_with fail
      refine HD.out.mono ?_
      rintro e w1 ⟨rfl, rfl⟩
      go_wp2_with fail
      go_ret2
      exact ⟨rfl, rfl⟩
    | true =>
      rw [hy] at HD
      obtain ⟨h3, h4⟩ := drift_iff.1 hy
      clear hy
      rw [show (true && true) = true from rfl, if_pos rfl]
      have hb := mul_bears (m := n) (b := 1000 - d) ⟨h1, by omega⟩ ⟨by omega, by omega⟩
      obtain ⟨p, hp⟩ : ∃ p, n * (1000 - d) = p := ⟨_, rfl⟩
      rw [hp] at hb ⊢
      have HP := Lib.hid hp
      have W1 : Hid (wrap64 p = p) := by show _ = _; unfold wrap64; omega
      obtain ⟨q, hq⟩ : ∃ q, p / (1000 + d) = q := ⟨_, rfl⟩
      have hq0 : 0 ≤ q := by rw [← hq]; exact Int.ediv_nonneg hb.1 (by omega)
      have hq1 : q ≤ p := by rw [← hq]; exact Int.ediv_le_self _ hb.1
      have i1 : p.tdiv (1000 + d) = q := by rw [Int.tdiv_eq_ediv_of_nonneg hb.1, hq]
      rw [hq]
      have HQ := Lib.hid hq
      clear hq hp
      go_enter Try.func18, Try.ntmps18
      go_wp2_with fail
      refine HT.out.mono ?_
      rintro e w1 ⟨rfl, rfl⟩
      go_wp2_with fail
      refine HD.out.mono ?_
      rintro e w1 ⟨rfl, rfl⟩
      go_wp2_with (first | rw [i1] | rw [HP.out, W1.out] | rw [HQ.out])
      go_ret2
      exact ⟨rfl, rfl⟩
end Go.Proofs.Ytidgmobnclchkaa.dri
