/- The contract of the reference's Verifier. Texts of any length. -/
import Derived.Test.YtefdgnlobhdajaaDoorPkc2
import Derived.WalkKit
import Derived.WalkSmall
namespace Go.Proofs.YtefdgnlobhdajaaDoor.pkc
open Go.RowKit
open Go.Proofs.YtefdgnlobhdajaaDoor.oct Go.Proofs.YtefdgnlobhdajaaDoor.ref Go.Proofs.YtefdgnlobhdajaaDoor.sha

theorem okV_text (s : ByteArray) (k : Nat) (h : k < s.size) (h0 : (s.data.toList.take k).all okV = true) : (okV s[k] = true → (s.data.toList.take (k + 1)).all okV = true) ∧ (okV s[k] = false → s.data.toList.all okV = false) := by
  have h1 : k < s.data.toList.length := by simpa using h
  have e : s[k] = s.data.toList[k] := rfl
  rw [e]
  constructor
  · intro h2
    rw [List.take_succ_eq_append_getElem h1, List.all_append, h0, List.all_cons, h2]
    rfl
  · intro h2
    cases h3 : s.data.toList.all okV with
    | false => rfl
    | true =>
      rw [List.all_eq_true] at h3
      rw [h3 _ (List.getElem_mem h1)] at h2
      cases h2
theorem okN_iff (n : Nat) : okN n = true ↔ (65 ≤ n ∧ n ≤ 90) ∨ (97 ≤ n ∧ n ≤ 122) ∨ (48 ≤ n ∧ n ≤ 57) ∨ n = 45 ∨ n = 46 ∨ n = 95 ∨ n = 126 := by
  unfold okN
  simp only [Bool.or_eq_true, Bool.and_eq_true, decide_eq_true_eq]
  omega
theorem okN_yes {n : Nat} (h : (65 ≤ n ∧ n ≤ 90) ∨ (97 ≤ n ∧ n ≤ 122) ∨ (48 ≤ n ∧ n ≤ 57) ∨ n = 45 ∨ n = 46 ∨ n = 95 ∨ n = 126) : okN n = true := (okN_iff n).2 h
theorem okN_no {n : Nat} (h : ¬ ((65 ≤ n ∧ n ≤ 90) ∨ (97 ≤ n ∧ n ≤ 122) ∨ (48 ≤ n ∧ n ≤ 57) ∨ n = 45 ∨ n = 46 ∨ n = 95 ∨ n = 126)) : okN n = false := by
  cases hn : okN n with
  | false => rfl
  | true => exact absurd ((okN_iff n).1 hn) h
/-- the kinds of signs -/
theorem kinds (n : Nat) (h : n < 256) : n ≤ 44 ∨ n = 45 ∨ n = 46 ∨ n = 47 ∨ (48 ≤ n ∧ n ≤ 57) ∨ (58 ≤ n ∧ n ≤ 64) ∨ (65 ≤ n ∧ n ≤ 90) ∨ (91 ≤ n ∧ n ≤ 94) ∨ n = 95 ∨ n = 96 ∨ (97 ≤ n ∧ n ≤ 122) ∨ (123 ≤ n ∧ n ≤ 125) ∨ n = 126 ∨ 127 ≤ n := by omega
set_option maxRecDepth 100000 in
set_option maxHeartbeats 16000000 in
theorem rver_c (s : ByteArray) (w : World) :
    Calls Tryd.prog 9 #[.string s] w fun e w' => e = .returned (.bool (verB s.data.toList)) ∧ w = w' := by
  have HSL : Hid (s.data.toList.length = s.size) := by show _ = _; rw [Array.length_toList]; rfl
  by_cases h0 : 43 ≤ s.size
  · by_cases h64 : s.size ≤ 128
    · have HW : Hid (verB s.data.toList = s.data.toList.all okV) := by
        show _ = _
        unfold verB
        rw [HSL.out, decide_eq_true h0, decide_eq_true h64]; rfl
      have i0 : ¬ ((s.size : Int) < 43) := by omega
      have i64 : ¬ ((s.size : Int) > 128) := by omega
      go_enter Tryd.func9, Tryd.ntmps9
      go_wp2_with fail
      go_loopg [3, 4, 5, 6] s.size (fun g s3 _ _ _ wx => ∃ k : Nat, k + g = s.size ∧ s3 = .int .i64 k ∧ Hid ((s.data.toList.take k).all okV = true) ∧ wx = w)
      case atStart => exact ⟨0, by omega, rfl, rfl, rfl⟩
      case round =>
        obtain ⟨k, hkg, rfl, HN, rfl⟩ := hrel
        rcases gk with _ | g
        · obtain rfl : k = s.size := by omega
          have HR : Hid (verB s.data.toList = true) := by
            have h := HN.out
            rw [List.take_of_length_le (by rw [HSL.out]; exact Nat.le_refl _)] at h
            show _ = _
            rw [HW.out]; exact h
          go_wp2_with fail
          go_ret
          exact ⟨ret_bool HR.out.symm, rfl⟩
        · have hk : k < s.size := by omega
          have hkI : (k : Int) < (s.size : Int) := by omega
          obtain ⟨h1, h2⟩ := okV_text s k hk HN.out
          rw [← HW.out] at h2
          unfold okV at h1 h2
          have hcl : s[k].toNat < 256 := s[k].toNat_lt
          obtain ⟨n, hc⟩ : ∃ n : Nat, s[k].toNat = n := ⟨_, rfl⟩
          rw [hc] at h1 h2 hcl
          have H1 := Lib.hid h1
          have H2 := Lib.hid h2
          have hcc : (s[k].toNat : Int) = (n : Int) := by rw [hc]
          have HK := kinds n hcl
          clear h1 h2 hc
          rcases HK with h | rfl | rfl | rfl | ⟨h, h3⟩ | ⟨h, h3⟩ | ⟨h, h3⟩ | ⟨h, h3⟩ | rfl | rfl | ⟨h, h3⟩ | ⟨h, h3⟩ | rfl | h
          · have HR := Lib.hid (H2.out (okN_no (by omega)))
            have : decide ((64 : Int) < (n : Int)) = false := decide_eq_false (by omega)
            have : decide ((n : Int) < 91) = true := decide_eq_true (by omega)
            have : decide ((96 : Int) < (n : Int)) = false := decide_eq_false (by omega)
            have : decide ((n : Int) < 123) = true := decide_eq_true (by omega)
            have : decide ((47 : Int) < (n : Int)) = false := decide_eq_false (by omega)
            have : decide ((n : Int) < 58) = true := decide_eq_true (by omega)
            have : ((n : Int) != 45) = true := by rw [bne_iff_ne]; omega
            have : ((n : Int) != 46) = true := by rw [bne_iff_ne]; omega
            have : ((n : Int) != 95) = true := by rw [bne_iff_ne]; omega
            have : ((n : Int) != 126) = true := by rw [bne_iff_ne]; omega
            clear H1 H2 hcl h
            go_wp2_with fail
            go_ret
            exact ⟨ret_bool HR.out.symm, rfl⟩
          · have HR := Lib.hid (H1.out (okN_yes (by omega)))
            clear H1 H2 hcl
            go_wp2_with fail
            go_roundg g
            case measure => omega
            case rel => exact ⟨k + 1, by omega, by go_num, HR, rfl⟩
          · have HR := Lib.hid (H1.out (okN_yes (by omega)))
            clear H1 H2 hcl
            go_wp2_with fail
            go_roundg g
            case measure => omega
            case rel => exact ⟨k + 1, by omega, by go_num, HR, rfl⟩
          · have HR := Lib.hid (H2.out (okN_no (by omega)))
            clear H1 H2 hcl
            go_wp2_with fail
            go_ret
            exact ⟨ret_bool HR.out.symm, rfl⟩
          · have HR := Lib.hid (H1.out (okN_yes (by omega)))
            have : decide ((64 : Int) < (n : Int)) = false := decide_eq_false (by omega)
            have : decide ((n : Int) < 91) = true := decide_eq_true (by omega)
            have : decide ((96 : Int) < (n : Int)) = false := decide_eq_false (by omega)
            have : decide ((n : Int) < 123) = true := decide_eq_true (by omega)
            have : decide ((47 : Int) < (n : Int)) = true := decide_eq_true (by omega)
            have : decide ((n : Int) < 58) = true := decide_eq_true (by omega)
            have : ((n : Int) != 45) = true := by rw [bne_iff_ne]; omega
            have : ((n : Int) != 46) = true := by rw [bne_iff_ne]; omega
            have : ((n : Int) != 95) = true := by rw [bne_iff_ne]; omega
            have : ((n : Int) != 126) = true := by rw [bne_iff_ne]; omega
            clear H1 H2 hcl h h3
            go_wp2_with fail
            go_roundg g
            case measure => omega
            case rel => exact ⟨k + 1, by omega, by go_num, HR, rfl⟩
          · have HR := Lib.hid (H2.out (okN_no (by omega)))
            have : decide ((64 : Int) < (n : Int)) = false := decide_eq_false (by omega)
            have : decide ((n : Int) < 91) = true := decide_eq_true (by omega)
            have : decide ((96 : Int) < (n : Int)) = false := decide_eq_false (by omega)
            have : decide ((n : Int) < 123) = true := decide_eq_true (by omega)
            have : decide ((47 : Int) < (n : Int)) = true := decide_eq_true (by omega)
            have : decide ((n : Int) < 58) = false := decide_eq_false (by omega)
            have : ((n : Int) != 45) = true := by rw [bne_iff_ne]; omega
            have : ((n : Int) != 46) = true := by rw [bne_iff_ne]; omega
            have : ((n : Int) != 95) = true := by rw [bne_iff_ne]; omega
            have : ((n : Int) != 126) = true := by rw [bne_iff_ne]; omega
            clear H1 H2 hcl h h3
            go_wp2_with fail
            go_ret
            exact ⟨ret_bool HR.out.symm, rfl⟩
          · have HR := Lib.hid (H1.out (okN_yes (by omega)))
            have : decide ((64 : Int) < (n : Int)) = true := decide_eq_true (by omega)
            have : decide ((n : Int) < 91) = true := decide_eq_true (by omega)
            have : decide ((96 : Int) < (n : Int)) = false := decide_eq_false (by omega)
            have : decide ((n : Int) < 123) = true := decide_eq_true (by omega)
            have : decide ((47 : Int) < (n : Int)) = true := decide_eq_true (by omega)
            have : decide ((n : Int) < 58) = false := decide_eq_false (by omega)
            have : ((n : Int) != 45) = true := by rw [bne_iff_ne]; omega
            have : ((n : Int) != 46) = true := by rw [bne_iff_ne]; omega
            have : ((n : Int) != 95) = true := by rw [bne_iff_ne]; omega
            have : ((n : Int) != 126) = true := by rw [bne_iff_ne]; omega
            clear H1 H2 hcl h h3
            go_wp2_with fail
            go_roundg g
            case measure => omega
            case rel => exact ⟨k + 1, by omega, by go_num, HR, rfl⟩
          · have HR := Lib.hid (H2.out (okN_no (by omega)))
            have : decide ((64 : Int) < (n : Int)) = true := decide_eq_true (by omega)
            have : decide ((n : Int) < 91) = false := decide_eq_false (by omega)
            have : decide ((96 : Int) < (n : Int)) = false := decide_eq_false (by omega)
            have : decide ((n : Int) < 123) = true := decide_eq_true (by omega)
            have : decide ((47 : Int) < (n : Int)) = true := decide_eq_true (by omega)
            have : decide ((n : Int) < 58) = false := decide_eq_false (by omega)
            have : ((n : Int) != 45) = true := by rw [bne_iff_ne]; omega
            have : ((n : Int) != 46) = true := by rw [bne_iff_ne]; omega
            have : ((n : Int) != 95) = true := by rw [bne_iff_ne]; omega
            have : ((n : Int) != 126) = true := by rw [bne_iff_ne]; omega
            clear H1 H2 hcl h h3
            go_wp2_with fail
            go_ret
            exact ⟨ret_bool HR.out.symm, rfl⟩
          · have HR := Lib.hid (H1.out (okN_yes (by omega)))
            clear H1 H2 hcl
            go_wp2_with fail
            go_roundg g
            case measure => omega
            case rel => exact ⟨k + 1, by omega, by go_num, HR, rfl⟩
          · have HR := Lib.hid (H2.out (okN_no (by omega)))
            clear H1 H2 hcl
            go_wp2_with fail
            go_ret
            exact ⟨ret_bool HR.out.symm, rfl⟩
          · have HR := Lib.hid (H1.out (okN_yes (by omega)))
            have : decide ((64 : Int) < (n : Int)) = true := decide_eq_true (by omega)
            have : decide ((n : Int) < 91) = false := decide_eq_false (by omega)
            have : decide ((96 : Int) < (n : Int)) = true := decide_eq_true (by omega)
            have : decide ((n : Int) < 123) = true := decide_eq_true (by omega)
            have : decide ((47 : Int) < (n : Int)) = true := decide_eq_true (by omega)
            have : decide ((n : Int) < 58) = false := decide_eq_false (by omega)
            have : ((n : Int) != 45) = true := by rw [bne_iff_ne]; omega
            have : ((n : Int) != 46) = true := by rw [bne_iff_ne]; omega
            have : ((n : Int) != 95) = true := by rw [bne_iff_ne]; omega
            have : ((n : Int) != 126) = true := by rw [bne_iff_ne]; omega
            clear H1 H2 hcl h h3
            go_wp2_with fail
            go_roundg g
            case measure => omega
            case rel => exact ⟨k + 1, by omega, by go_num, HR, rfl⟩
          · have HR := Lib.hid (H2.out (okN_no (by omega)))
            have : decide ((64 : Int) < (n : Int)) = true := decide_eq_true (by omega)
            have : decide ((n : Int) < 91) = false := decide_eq_false (by omega)
            have : decide ((96 : Int) < (n : Int)) = true := decide_eq_true (by omega)
            have : decide ((n : Int) < 123) = false := decide_eq_false (by omega)
            have : decide ((47 : Int) < (n : Int)) = true := decide_eq_true (by omega)
            have : decide ((n : Int) < 58) = false := decide_eq_false (by omega)
            have : ((n : Int) != 45) = true := by rw [bne_iff_ne]; omega
            have : ((n : Int) != 46) = true := by rw [bne_iff_ne]; omega
            have : ((n : Int) != 95) = true := by rw [bne_iff_ne]; omega
            have : ((n : Int) != 126) = true := by rw [bne_iff_ne]; omega
            clear H1 H2 hcl h h3
            go_wp2_with fail
            go_ret
            exact ⟨ret_bool HR.out.symm, rfl⟩
          · have HR := Lib.hid (H1.out (okN_yes (by omega)))
            clear H1 H2 hcl
            go_wp2_with fail
            go_roundg g
            case measure => omega
            case rel => exact ⟨k + 1, by omega, by go_num, HR, rfl⟩
          · have HR := Lib.hid (H2.out (okN_no (by omega)))
            have : decide ((64 : Int) < (n : Int)) = true := decide_eq_true (by omega)
            have : decide ((n : Int) < 91) = false := decide_eq_false (by omega)
            have : decide ((96 : Int) < (n : Int)) = true := decide_eq_true (by omega)
            have : decide ((n : Int) < 123) = false := decide_eq_false (by omega)
            have : decide ((47 : Int) < (n : Int)) = true := decide_eq_true (by omega)
            have : decide ((n : Int) < 58) = false := decide_eq_false (by omega)
            have : ((n : Int) != 45) = true := by rw [bne_iff_ne]; omega
            have : ((n : Int) != 46) = true := by rw [bne_iff_ne]; omega
            have : ((n : Int) != 95) = true := by rw [bne_iff_ne]; omega
            have : ((n : Int) != 126) = true := by rw [bne_iff_ne]; omega
            clear H1 H2 hcl h
            go_wp2_with fail
            go_ret
            exact ⟨ret_bool HR.out.symm, rfl⟩
    · have HW : Hid (verB s.data.toList = false) := by
        show _ = _
        unfold verB
        rw [HSL.out, decide_eq_true h0, decide_eq_false h64]; rfl
      have i0 : ¬ ((s.size : Int) < 43) := by omega
      have i64 : (s.size : Int) > 128 := by omega
      go_enter Tryd.func9, Tryd.ntmps9
      go_wp2_with fail
      go_ret
      exact ⟨ret_bool HW.out.symm, rfl⟩
  · have HW : Hid (verB s.data.toList = false) := by
      show _ = _
      unfold verB
      rw [HSL.out, decide_eq_false h0]; rfl
    have i0 : (s.size : Int) < 43 := by omega
    go_enter Tryd.func9, Tryd.ntmps9
    go_wp2_with fail
    go_ret
    exact ⟨ret_bool HW.out.symm, rfl⟩
end Go.Proofs.YtefdgnlobhdajaaDoor.pkc
