/- The reference's sign, Right, Head, Make. No condition beside the secret's reach. -/
import Derived.Test.YtjadginnaogjoaaGreatDoorSeA
namespace Go.Proofs.YtjadginnaogjoaaGreatDoor.sea
open Go.RowKit
open Go.Proofs.YtjadginnaogjoaaGreatDoor.oct Go.Proofs.YtjadginnaogjoaaGreatDoor.ref Go.Proofs.YtjadginnaogjoaaGreatDoor.rows Go.Proofs.YtjadginnaogjoaaGreatDoor.trn
open Go.Proofs.YtjadginnaogjoaaGreatDoor.sha (Rm digest mac)
open Go.Proofs.YtjadginnaogjoaaGreatDoor.jsn (intD)
open Go.Lib (byteCells)

set_option maxRecDepth 100000 in
set_option maxHeartbeats 1000000 in
theorem rsign_c (c : UInt8) (w : World) : Calls Tryz.prog 27 #[.int .u8 (c.toNat : Int)] w fun e w' => e = .returned (.bool (webC c)) ∧ w = w' := by
  have hc := c.toNat_lt
  have HI : Hid (webC c = (decide (47 < c.toNat) && decide (c.toNat < 58) || decide (64 < c.toNat) && decide (c.toNat < 91) || decide (96 < c.toNat) && decide (c.toNat < 123) || decide (c.toNat = 45) || decide (c.toNat = 95))) := rfl
  obtain ⟨n, hn⟩ : ∃ n, c.toNat = n := ⟨_, rfl⟩
  rw [hn] at hc HI ⊢
  clear hn
  go_enter Tryz.func27, Tryz.ntmps27
  go_wp2_with fail
  all_goals
    go_ret
    refine ⟨ret_bool ?_, rfl⟩
    rw [HI.out, Bool.eq_iff_iff]
    simp only [Bool.or_eq_true, Bool.and_eq_true, decide_eq_true_eq, beq_iff_eq, true_iff]
    omega
theorem rt_false {t : Tk} (h : ¬ Rt t) : decide (Rt t) = false := decide_eq_false h
set_option maxRecDepth 100000 in
set_option maxHeartbeats 4000000 in
theorem rright_c (t : Tk) (w : World) (hl : t.f.length ≤ 9223372036854775806) :
    Calls Tryz.prog 28 #[tok t] w fun e w' => e = .returned (.bool (decide (Rt t))) ∧ Below w.heap.size w w' := by
  have hsz := mk_sz t.f
  cases t with
  | mk k f n =>
    simp only at hsz hl
    unfold tok txt
    simp only
    obtain ⟨S, hS⟩ : ∃ S, (⟨f.toArray⟩ : ByteArray) = S := ⟨_, rfl⟩
    rw [hS] at hsz ⊢
    have hfl : S.data.toList = f := by rw [← hS]
    clear hS
    have hb1 : Below w.heap.size w (w.alloc (.cells #[.int .i64 k, .string S, .int .i64 n] 24)) := (Below.refl _ _).alloc (Nat.le_refl _) _
    have HB := Lib.hid hb1
    clear hb1
    by_cases h1 : k < 1
    · have HR : Hid (decide (Rt ⟨k, f, n⟩) = false) := rt_false fun r => by have := r.k1; simp only at this; omega
      have y0 : k < 1 := by omega
      clear h1 hsz hfl hl
      go_enter Tryz.func28, Tryz.ntmps28
      go_wp2_with fail
      go_ret
      exact ⟨ret_bool HR.out.symm, HB.out⟩
    · have n00 : ¬ k < 1 := by omega
      by_cases h2 : 3 < k
      · have HR : Hid (decide (Rt ⟨k, f, n⟩) = false) := rt_false fun r => by have := r.k3; simp only at this; omega
        have y0 : k > 3 := by omega
        clear h2 hsz hfl hl
        go_enter Tryz.func28, Tryz.ntmps28
        go_wp2_with fail
        go_ret
        exact ⟨ret_bool HR.out.symm, HB.out⟩
      · have n10 : ¬ k > 3 := by omega
        by_cases h3 : S.size = 0
        · have HR : Hid (decide (Rt ⟨k, f, n⟩) = false) := rt_false fun r => by have := r.f1; simp only at this; omega
          have y0 : S.size = 0 := by omega
          have y1 : (S.size : Int) = 0 := by omega
          clear h3 hsz hfl hl
          go_enter Tryz.func28, Tryz.ntmps28
          go_wp2_with fail
          go_ret
          exact ⟨ret_bool HR.out.symm, HB.out⟩
        · have n20 : ¬ S.size = 0 := by omega
          have n21 : ¬ (S.size : Int) = 0 := by omega
          by_cases h4 : 32 < S.size
          · have HR : Hid (decide (Rt ⟨k, f, n⟩) = false) := rt_false fun r => by have := r.f32; simp only at this; omega
            have y0 : (S.size : Int) > 32 := by omega
            clear h4 hsz hfl hl
            go_enter Tryz.func28, Tryz.ntmps28
            go_wp2_with fail
            go_ret
            exact ⟨ret_bool HR.out.symm, HB.out⟩
          · have n30 : ¬ (S.size : Int) > 32 := by omega
            by_cases h5 : n < 0
            · have HR : Hid (decide (Rt ⟨k, f, n⟩) = false) := rt_false fun r => by have := r.n0; simp only at this; omega
              have y0 : n < 0 := by omega
              clear h5 hsz hfl hl
              go_enter Tryz.func28, Tryz.ntmps28
              go_wp2_with fail
              go_ret
              exact ⟨ret_bool HR.out.symm, HB.out⟩
            · have n40 : ¬ n < 0 := by omega
              by_cases h6 : 1099511627776 < n
              · have HR : Hid (decide (Rt ⟨k, f, n⟩) = false) := rt_false fun r => by have := r.n1; simp only at this; omega
                have y0 : n > 1099511627776 := by omega
                clear h6 hsz hfl hl
                go_enter Tryz.func28, Tryz.ntmps28
                go_wp2_with fail
                go_ret
                exact ⟨ret_bool HR.out.symm, HB.out⟩
              · have n50 : ¬ n > 1099511627776 := by omega
                have HD : Hid (decide (Rt ⟨k, f, n⟩) = webs S.data.toList) := by
                  show _ = _
                  rw [rt_dec]
                  unfold kB fB sB
                  simp only
                  rw [hfl, decide_eq_true (show 1 ≤ k by omega), decide_eq_true (show k ≤ 3 by omega), decide_eq_true (show 0 < f.length by omega), decide_eq_true (show f.length ≤ 32 by omega), decide_eq_true (show 0 ≤ n by omega), decide_eq_true (show n ≤ 1099511627776 by omega)]
                  simp
                obtain ⟨D, hD⟩ : ∃ D, decide (Rt ⟨k, f, n⟩) = D := ⟨_, rfl⟩
                rw [hD] at HD ⊢
                have HSL : Hid (S.data.toList.length = S.size) := by show _ = _; rw [Array.length_toList]; rfl
                have hS32 : S.size ≤ 32 := by omega
                clear h1 h2 h3 h4 h5 h6 hsz hfl hl hD
                go_enter Tryz.func28, Tryz.ntmps28
                go_wp2_with fail
                have hB1 : Blk (w.alloc (.cells #[.int .i64 k, .string S, .int .i64 n] 24)) w.heap.size 24 [.int .i64 k, .string S, .int .i64 n] := blk_new w _ _ _ rfl
                obtain ⟨w1, hw1⟩ : ∃ w1, w.alloc (.cells #[.int .i64 k, .string S, .int .i64 n] 24) = w1 := ⟨_, rfl⟩
                rw [hw1] at hB1 HB ⊢
                clear hw1
                go_loopg [3] S.size (fun g s3 wx => ∃ i : Nat, i + g = S.size ∧ s3 = .int .i64 i ∧ Hid (webs (S.data.toList.take i) = true) ∧ wx = w1)
                case atStart => exact ⟨0, by omega, rfl, rfl, rfl⟩
                case round =>
                  obtain ⟨i, hig, rfl, HN, rfl⟩ := hrel
                  obtain ⟨c0, c1, c2⟩ := blk3 hB1
                  rcases gk with _ | g
                  · obtain rfl : i = S.size := by omega
                    have HR : Hid (D = true) := by
                      have h := HN.out
                      rw [List.take_of_length_le (by rw [HSL.out]; exact Nat.le_refl _)] at h
                      show _ = _
                      rw [HD.out]; exact h
                    clear hB1
                    go_wp2_with fail
                    go_ret
                    exact ⟨ret_bool HR.out.symm, HB.out⟩
                  · have hi : i < S.size := by omega
                    have hiI : (i : Int) < (S.size : Int) := by omega
                    obtain ⟨h1, h2⟩ := webs_step S i hi HN.out
                    rw [← HD.out] at h2
                    obtain ⟨c, hc⟩ : ∃ c, S[i] = c := ⟨_, rfl⟩
                    have hcc : (S[i].toNat : Int) = (c.toNat : Int) := by rw [hc]
                    rw [hc] at h1 h2
                    have H1 := Lib.hid h1
                    have H2 := Lib.hid h2
                    have HC := Lib.hid (fun w => rsign_c c w)
                    clear h1 h2 hc
                    cases hok : webC c
                    · have HR := Lib.hid (H2.out hok)
                      rw [hok] at HC
                      clear H1 H2 hok hB1
                      go_wp2_with (go_at_call 27; refine (HC.out _).mono ?_; rintro e w' ⟨rfl, rfl⟩)
                      go_ret
                      exact ⟨ret_bool HR.out.symm, HB.out⟩
                    · have HR := Lib.hid (H1.out hok)
                      rw [hok] at HC
                      clear H1 H2 hok
                      go_wp2_with (go_at_call 27; refine (HC.out _).mono ?_; rintro e w' ⟨rfl, rfl⟩)
                      go_roundg g
                      case measure => omega
                      case rel => exact ⟨i + 1, by omega, by go_num, HR, rfl⟩
end Go.Proofs.YtjadginnaogjoaaGreatDoor.sea
