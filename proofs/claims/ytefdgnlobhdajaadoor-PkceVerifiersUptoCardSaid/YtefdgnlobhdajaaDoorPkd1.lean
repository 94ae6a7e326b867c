/- The contract of the developers' IsVerifier. Texts of any length. -/
import Derived.Test.YtefdgnlobhdajaaDoorPkcApi
namespace Go.Proofs.YtefdgnlobhdajaaDoor.pkc
open Go.RowKit
open Go.Proofs.YtefdgnlobhdajaaDoor.oct Go.Proofs.YtefdgnlobhdajaaDoor.ref Go.Proofs.YtefdgnlobhdajaaDoor.sha

def signsL : T := [65, 66, 67, 68, 69, 70, 71, 72, 73, 74, 75, 76, 77, 78, 79, 80, 81, 82, 83, 84, 85, 86, 87, 88, 89, 90, 97, 98, 99, 100, 101, 102, 103, 104, 105, 106, 107, 108, 109, 110, 111, 112, 113, 114, 115, 116, 117, 118, 119, 120, 121, 122, 48, 49, 50, 51, 52, 53, 54, 55, 56, 57, 45, 46, 95, 126]
theorem pall_bytes {p : UInt8 → Prop} (h : ∀ n : Fin 256, p n.val.toUInt8) (c : UInt8) : p c := by
  have := h ⟨c.toNat, c.toNat_lt⟩
  rwa [show (⟨c.toNat, c.toNat_lt⟩ : Fin 256).val.toUInt8 = c by simp] at this
theorem sign_ix (c : UInt8) : if okV c = true then ¬ Lib.indexByte signsL c < 0 else Lib.indexByte signsL c < 0 := by
  revert c
  exact fun c => pall_bytes (p := fun c => if okV c = true then ¬ Lib.indexByte signsL c < 0 else Lib.indexByte signsL c < 0) (by decide +kernel) c
theorem signIx_c (c : UInt8) (w : World) : Calls Tryd.prog 16 #[.string ⟨signsL.toArray⟩, .int .u8 (c.toNat : Int)] w fun e w' => e = .returned (.int .i64 (Lib.indexByte signsL c)) ∧ w' = w := by
  have := sh.indexByte ⟨signsL.toArray⟩ (c.toNat : Int) w
  rw [show (⟨signsL.toArray⟩ : ByteArray).data.toList = signsL from rfl, show (c.toNat : Int).toNat.toUInt8 = c by simp] at this
  exact this
set_option maxRecDepth 100000 in
set_option maxHeartbeats 8000000 in
theorem pver_c (s : ByteArray) (w : World) :
    Calls Tryd.prog 8 #[.string s] w fun e w' => e = .returned (.bool (verB s.data.toList)) ∧ w = w' := by
  have HSL : Hid (s.data.toList.length = s.size) := by show _ = _; rw [Array.length_toList]; rfl
  by_cases h0 : 43 ≤ s.size
  · by_cases h64 : s.size ≤ 128
    · have HW : Hid (verB s.data.toList = s.data.toList.all okV) := by
        show _ = _
        unfold verB
        rw [HSL.out, decide_eq_true h0, decide_eq_true h64]; rfl
      have i0 : ¬ ((s.size : Int) < 43) := by omega
      have i64 : ¬ ((s.size : Int) > 128) := by omega
      go_enter Tryd.func8, Tryd.ntmps8
      go_wp2_with fail
      go_loopg [3, 14] s.size (fun g _ s6 wx => ∃ k : Nat, k + g = s.size ∧ s6 = .int .i64 k ∧ Hid ((s.data.toList.take k).all okV = true) ∧ wx = w)
      case atStart => exact ⟨0, by omega, rfl, rfl, rfl⟩
      case round =>
        obtain ⟨k, hkg, rfl, HN, rfl⟩ := hrel
        rcases gk with _ | g
        · obtain rfl : k = s.size := by omega
          have HR : Hid (verB s.data.toList = true) := by
            have h := HN.out
            rw [List.take_of_length_le (by rw [HSL.out]; exact Nat.le_refl _)] at h
            show _ = _
            rw [HW.out]; exact h
          go_wp2_with fail
          go_ret
          exact ⟨ret_bool HR.out.symm, rfl⟩
        · have hk : k < s.size := by omega
          have hkI : (k : Int) < (s.size : Int) := by omega
          obtain ⟨h1, h2⟩ := okV_text s k hk HN.out
          rw [← HW.out] at h2
          obtain ⟨c, hc⟩ : ∃ c, s[k] = c := ⟨_, rfl⟩
          have hix := sign_ix c
          have hcc : (s[k].toNat : Int) = (c.toNat : Int) := by rw [hc]
          rw [hc] at h1 h2
          have H1 := Lib.hid h1
          have H2 := Lib.hid h2
          have HC := Lib.hid (signIx_c c wr)
          clear h1 h2 hc
          obtain ⟨ix, hixe⟩ : ∃ ix, Lib.indexByte signsL c = ix := ⟨_, rfl⟩
          rw [hixe] at HC hix
          clear hixe
          unfold signsL at HC
          cases hok : okV c
          · have hneg : ix < 0 := by rw [hok] at hix; simpa using hix
            clear hix
            have HR := Lib.hid (H2.out hok)
            clear H1 H2 hok
            go_wp2_with (go_at_call 16; refine HC.out.mono ?_; rintro e w' ⟨rfl, rfl⟩)
            go_ret
            exact ⟨ret_bool HR.out.symm, rfl⟩
          · have hneg : ¬ ix < 0 := by rw [hok] at hix; simpa using hix
            clear hix
            have HR := Lib.hid (H1.out hok)
            clear H1 H2 hok
            go_wp2_with (go_at_call 16; refine HC.out.mono ?_; rintro e w' ⟨rfl, rfl⟩)
            go_roundg g
            case measure => omega
            case rel => exact ⟨k + 1, by omega, by go_num, HR, rfl⟩
    · have HW : Hid (verB s.data.toList = false) := by
        show _ = _
        unfold verB
        rw [HSL.out, decide_eq_true h0, decide_eq_false h64]; rfl
      have i0 : ¬ ((s.size : Int) < 43) := by omega
      have i64 : (s.size : Int) > 128 := by omega
      go_enter Tryd.func8, Tryd.ntmps8
      go_wp2_with fail
      go_ret
      exact ⟨ret_bool HW.out.symm, rfl⟩
  · have HW : Hid (verB s.data.toList = false) := by
      show _ = _
      unfold verB
      rw [HSL.out, decide_eq_false h0]; rfl
    have i0 : (s.size : Int) < 43 := by omega
    go_enter Tryd.func8, Tryd.ntmps8
    go_wp2_with fail
    go_ret
    exact ⟨ret_bool HW.out.symm, rfl⟩
theorem pverT_c (l : T) (w : World) : Calls Tryd.prog 8 #[txt l] w fun e w' => e = .returned (.bool (verB l)) ∧ w = w' := pver_c ⟨l.toArray⟩ w
end Go.Proofs.YtefdgnlobhdajaaDoor.pkc
