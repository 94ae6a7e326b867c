/- The contracts of the developers' isSign, IsWord. No condition but a length within the reach. -/
import Derived.Test.YtcklbbbplbboaaaDoorScp3
namespace Go.Proofs.YtcklbbbplbboaaaDoor.scp
open Go.RowKit
open Go.Proofs.YtcklbbbplbboaaaDoor.oct Go.Proofs.YtcklbbbplbboaaaDoor.ref Go.Proofs.YtcklbbbplbboaaaDoor.rows Go.Proofs.YtcklbbbplbboaaaDoor.rowg

set_option maxRecDepth 100000 in
set_option maxHeartbeats 8000000 in
theorem sign_c (c : UInt8) (w : World) : Calls Tryd.prog 26 #[.int .u8 (c.toNat : Int)] w fun e w' => e = .returned (.bool (okC c)) ∧ w = w' := by
  have HOK : Hid (okC c = (decide (c.toNat = 33) || (decide (35 ≤ c.toNat) && decide (c.toNat ≤ 91)) || (decide (93 ≤ c.toNat) && decide (c.toNat ≤ 126)))) := rfl
  have hcl := c.toNat_lt
  obtain ⟨n, hn⟩ : ∃ n, c.toNat = n := ⟨_, rfl⟩
  rw [hn] at hcl HOK ⊢
  clear hn
  have hr := HOK.out
  obtain ⟨r, hrr⟩ : ∃ r, okC c = r := ⟨_, rfl⟩
  rw [hrr] at hr ⊢
  clear HOK hrr
  by_cases h1 : 33 ≤ n
  · by_cases h2 : n ≤ 126
    · by_cases h3 : n = 34
      · subst h3
        have HR : Hid (r = false) := by rw [hr]; rfl
        clear hr hcl h1 h2
        go_enter Tryd.func26, Tryd.ntmps26
        go_wp2_with fail
        go_ret
        exact ⟨ret_bool HR.out.symm, rfl⟩
      · by_cases h4 : n = 92
        · subst h4
          have HR : Hid (r = false) := by rw [hr]; rfl
          clear hr hcl h1 h2 h3
          go_enter Tryd.func26, Tryd.ntmps26
          go_wp2_with fail
          go_ret
          exact ⟨ret_bool HR.out.symm, rfl⟩
        · have HR : Hid (r = true) := by
            show _ = _
            rw [hr]
            simp only [Bool.or_eq_true, Bool.and_eq_true, decide_eq_true_eq]
            omega
          have i1 : decide ((33 : Int) ≤ (n : Int)) = true := decide_eq_true (by omega)
          have i2 : decide ((n : Int) ≤ 126) = true := decide_eq_true (by omega)
          have i3 : ((n : Int) != 34) = true := by rw [bne_iff_ne]; omega
          have i4 : ((n : Int) != 92) = true := by rw [bne_iff_ne]; omega
          clear hr hcl h1 h2 h3 h4
          go_enter Tryd.func26, Tryd.ntmps26
          go_wp2_with fail
          go_ret
          exact ⟨ret_bool HR.out.symm, rfl⟩
    · have HR : Hid (r = false) := by
        show _ = _
        rw [hr]
        have : ¬ (n = 33 ∨ (35 ≤ n ∧ n ≤ 91) ∨ (93 ≤ n ∧ n ≤ 126)) := by omega
        simpa [Bool.or_assoc] using this
      have i1 : decide ((33 : Int) ≤ (n : Int)) = true := decide_eq_true (by omega)
      have i2 : decide ((n : Int) ≤ 126) = false := decide_eq_false (by omega)
      clear hr hcl h1 h2
      go_enter Tryd.func26, Tryd.ntmps26
      go_wp2_with fail
      go_ret
      exact ⟨ret_bool HR.out.symm, rfl⟩
  · have HR : Hid (r = false) := by
      show _ = _
      rw [hr]
      have : ¬ (n = 33 ∨ (35 ≤ n ∧ n ≤ 91) ∨ (93 ≤ n ∧ n ≤ 126)) := by omega
      simpa [Bool.or_assoc] using this
    have i1 : decide ((33 : Int) ≤ (n : Int)) = false := decide_eq_false (by omega)
    clear hr hcl h1
    go_enter Tryd.func26, Tryd.ntmps26
    go_wp2_with fail
    go_ret
    exact ⟨ret_bool HR.out.symm, rfl⟩
set_option maxRecDepth 100000 in
set_option maxHeartbeats 8000000 in
theorem word_c (s : ByteArray) (w : World) :
    Calls Tryd.prog 11 #[.string s] w fun e w' => e = .returned (.bool (wordB s.data.toList)) ∧ w = w' := by
  have HSL : Hid (s.data.toList.length = s.size) := by show _ = _; rw [Array.length_toList]; rfl
  by_cases h0 : 1 ≤ s.size
  · have he : s.toList.isEmpty = false := by
      cases h : s.toList with
      | nil => exfalso; have h2 := HSL.out; rw [show s.data.toList = s.toList from (Lib.toList_data s).symm, h] at h2; simp at h2; omega
      | cons _ _ => rfl
    by_cases h64 : s.size ≤ 64
    · have HW : Hid (wordB s.data.toList = s.data.toList.all okC) := by
        show _ = _
        unfold wordB
        rw [HSL.out, decide_eq_true h0, decide_eq_true h64]; rfl
      have i64 : ¬ ((s.size : Int) > 64) := by omega
      go_enter Tryd.func11, Tryd.ntmps11
      go_wp2_with fail
      go_loopg [3, 13] s.size (fun g _ s6 wx => ∃ k : Nat, k + g = s.size ∧ s6 = .int .i64 k ∧ Hid ((s.data.toList.take k).all okC = true) ∧ wx = w)
      case atStart => exact ⟨0, by omega, rfl, rfl, rfl⟩
      case round =>
        obtain ⟨k, hkg, rfl, HN, rfl⟩ := hrel
        rcases gk with _ | g
        · obtain rfl : k = s.size := by omega
          have HR : Hid (wordB s.data.toList = true) := by
            have h := HN.out
            rw [List.take_of_length_le (by rw [HSL.out]; exact Nat.le_refl _)] at h
            show _ = _
            rw [HW.out]; exact h
          go_wp2_with fail
          go_ret
          exact ⟨ret_bool HR.out.symm, rfl⟩
        · have hk : k < s.size := by omega
          have hkI : (k : Int) < (s.size : Int) := by omega
          obtain ⟨h1, h2⟩ := okC_text s k hk HN.out
          rw [← HW.out] at h2
          obtain ⟨c, hc⟩ : ∃ c, s[k] = c := ⟨_, rfl⟩
          have hcc : (s[k].toNat : Int) = (c.toNat : Int) := by rw [hc]
          rw [hc] at h1 h2
          have H1 := Lib.hid h1
          have H2 := Lib.hid h2
          have HC := Lib.hid (sign_c c wr)
          clear h1 h2 hc
          by_cases hok : okC c = true
          · have HR := Lib.hid (H1.out hok)
            rw [hok] at HC
            clear H1 H2 hok
            go_wp2_with (go_at_call 26; refine HC.out.mono ?_; rintro e w' ⟨rfl, rfl⟩)
            go_roundg g
            case measure => omega
            case rel => exact ⟨k + 1, by omega, by go_num, HR, rfl⟩
          · have hok' : okC c = false := by simpa using hok
            have HR := Lib.hid (H2.out hok')
            rw [hok'] at HC
            clear H1 H2 hok hok'
            go_wp2_with (go_at_call 26; refine HC.out.mono ?_; rintro e w' ⟨rfl, rfl⟩)
            go_ret
            exact ⟨ret_bool HR.out.symm, rfl⟩
    · have HW : Hid (wordB s.data.toList = false) := by
        show _ = _
        unfold wordB
        rw [HSL.out, decide_eq_true h0, decide_eq_false h64]; rfl
      have i64 : (s.size : Int) > 64 := by omega
      go_enter Tryd.func11, Tryd.ntmps11
      go_wp2_with fail
      go_ret
      exact ⟨ret_bool HW.out.symm, rfl⟩
  · have HW : Hid (wordB s.data.toList = false) := by
      show _ = _
      unfold wordB
      rw [HSL.out, decide_eq_false h0]; rfl
    have he : s.toList.isEmpty = true := by
      rw [Lib.toList_data]
      have : s.data.toList = [] := List.length_eq_zero_iff.1 (by rw [HSL.out]; omega)
      rw [this]; rfl
    go_enter Tryd.func11, Tryd.ntmps11
    go_wp2_with fail
    go_ret
    exact ⟨ret_bool HW.out.symm, rfl⟩
theorem wordT_c (x : T) (w : World) : Calls Tryd.prog 11 #[tx x] w fun e w' => e = .returned (.bool (wordB x)) ∧ w = w' := word_c ⟨x.toArray⟩ w
end Go.Proofs.YtcklbbbplbboaaaDoor.scp
