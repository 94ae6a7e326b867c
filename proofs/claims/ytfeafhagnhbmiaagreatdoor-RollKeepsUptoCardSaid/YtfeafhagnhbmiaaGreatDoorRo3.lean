/- Small functions that roll and its reference lean on: slices.Equal, Index and Contains over texts, strings.Contains at a sign, CutPrefix; what text a client may have. No condition beyond what a slice and a text are. -/
import Derived.Test.YtfeafhagnhbmiaaGreatDoorGscp
import Derived.Test.YtfeafhagnhbmiaaGreatDoorGfld
import Derived.Test.YtfeafhagnhbmiaaGreatDoorRo1
import Derived.Lib.Hide
namespace Go.Proofs.YtfeafhagnhbmiaaGreatDoor.rol
open Go.RowKit
open Go.Proofs.YtfeafhagnhbmiaaGreatDoor.oct Go.Proofs.YtfeafhagnhbmiaaGreatDoor.ref Go.Proofs.YtfeafhagnhbmiaaGreatDoor.rows Go.Proofs.YtfeafhagnhbmiaaGreatDoor.rowg
open Go.Proofs.YtfeafhagnhbmiaaGreatDoor.scp (tx senc senc_len InS ins_below ins_cell take_eqk hasB hasB_iff hasB_take all_step)

theorem byte_step (p : UInt8 → Bool) (s : ByteArray) (k : Nat) (h : k < s.size) (h0 : (s.data.toList.take k).all p = true) : (p s[k] = true → (s.data.toList.take (k + 1)).all p = true) ∧ (p s[k] = false → s.data.toList.all p = false) := by
  have h1 : k < s.data.toList.length := by simpa using h
  have e : s[k] = s.data.toList[k] := rfl
  rw [e]
  exact all_step p _ k h1 h0
set_option maxRecDepth 100000 in
set_option maxHeartbeats 8000000 in
theorem isText_s (s : ByteArray) (m : Nat) (hm : m ≤ 1000) (w : World) :
    Calls Tryz.prog 56 #[.string s, .int .i64 (m : Int)] w fun e w' => e = .returned (.bool (prB s.data.toList m)) ∧ w = w' := by
  have HSL : Hid (s.data.toList.length = s.size) := by show _ = _; rw [Array.length_toList]; rfl
  by_cases h0 : s.size = 0
  · have HW : Hid (prB s.data.toList m = false) := by
      have e : s.data.toList = [] := List.length_eq_zero_iff.1 (by rw [HSL.out]; exact h0)
      show _ = _
      rw [e]; exact prB_empty m
    have hs : s = ⟨#[]⟩ := by
      have e : s.data.toList = [] := List.length_eq_zero_iff.1 (by rw [HSL.out]; exact h0)
      cases s with | mk d => simp at e; rw [e]
    clear HSL h0
    subst hs
    go_enter Tryz.func56, Tryz.ntmps56
    go_wp2_with fail
    go_ret
    exact ⟨ret_bool HW.out.symm, rfl⟩
  · have he : s.toList.isEmpty = false := by
      rw [List.isEmpty_eq_false_iff]
      intro e
      rw [ByteArray.toList_eq] at e
      have := HSL.out
      rw [e] at this
      simp at this
      omega
    by_cases h1 : s.size ≤ m
    · have HW : Hid (prB s.data.toList m = s.data.toList.all okP) := by
        show _ = _
        unfold prB
        rw [HSL.out, decide_eq_true (show 1 ≤ s.size by omega), decide_eq_true h1]; simp
      have i0 : decide (m < s.size) = false := decide_eq_false (by omega)
      go_enter Tryz.func56, Tryz.ntmps56
      go_wp2_with fail
      go_loopg [16] s.size (fun g s6 wx => ∃ k : Nat, k + g = s.size ∧ s6 = .int .i64 k ∧ Hid ((s.data.toList.take k).all okP = true) ∧ wx = w)
      case atStart => exact ⟨0, by omega, rfl, rfl, rfl⟩
      case round =>
        obtain ⟨k, hkg, rfl, HN, rfl⟩ := hrel
        rcases gk with _ | g
        · obtain rfl : k = s.size := by omega
          have HR : Hid (prB s.data.toList m = true) := by
            have h := HN.out
            rw [List.take_of_length_le (by rw [HSL.out]; exact Nat.le_refl _)] at h
            show _ = _
            rw [HW.out]; exact h
          go_wp2_with fail
          go_ret
          exact ⟨ret_bool HR.out.symm, rfl⟩
        · have hk : k < s.size := by omega
          have hkI : (k : Int) < (s.size : Int) := by omega
          obtain ⟨h1', h2⟩ := byte_step okP s k hk HN.out
          rw [← HW.out] at h2
          obtain ⟨c, hc⟩ : ∃ c, s[k] = c := ⟨_, rfl⟩
          have hcc : (s[k].toNat : Int) = (c.toNat : Int) := by rw [hc]
          rw [hc] at h1' h2
          have H1 := Lib.hid h1'
          have H2 := Lib.hid h2
          have HOK : Hid (okP c = (decide (33 ≤ c.toNat) && decide (c.toNat ≤ 126))) := rfl
          clear h1' h2 hc
          obtain ⟨n, hn⟩ : ∃ n, c.toNat = n := ⟨_, rfl⟩
          rw [hn] at hcc HOK
          clear hn
          by_cases hok : okP c = true
          · have HR := Lib.hid (H1.out hok)
            have ho := hok
            rw [HOK.out] at ho
            simp only [Bool.and_eq_true, decide_eq_true_eq] at ho
            clear H1 H2 hok HOK
            go_wp2_with fail
            all_goals first
              | (go_roundg g
                 case measure => omega
                 case rel => exact ⟨k + 1, by omega, by go_num, HR, rfl⟩)
              | (exfalso; omega)
          · have HR := Lib.hid (H2.out (by simpa using hok))
            have ho := hok
            rw [HOK.out] at ho
            simp only [Bool.and_eq_true, decide_eq_true_eq] at ho
            clear H1 H2 hok HOK
            go_wp2_with fail
            all_goals first
              | (go_ret; exact ⟨ret_bool HR.out.symm, rfl⟩)
              | (exfalso; omega)
    · have HW : Hid (prB s.data.toList m = false) := by
        show _ = _
        unfold prB
        rw [HSL.out, decide_eq_false h1]; simp
      go_enter Tryz.func56, Tryz.ntmps56
      go_wp2_with fail
      go_ret
      exact ⟨ret_bool HW.out.symm, rfl⟩
theorem isText_c (l : T) (m : Nat) (hm : m ≤ 1000) (w : World) :
    Calls Tryz.prog 56 #[.string ⟨l.toArray⟩, .int .i64 (m : Int)] w fun e w' => e = .returned (.bool (prB l m)) ∧ w = w' := by
  simpa using isText_s ⟨l.toArray⟩ m hm w
theorem isText128 (l : T) (w : World) : Calls Tryz.prog 56 #[.string ⟨l.toArray⟩, .int .i64 128] w fun e w' => e = .returned (.bool (prB l 128)) ∧ w = w' := isText_c l 128 (by decide) w
theorem isText64 (l : T) (w : World) : Calls Tryz.prog 56 #[.string ⟨l.toArray⟩, .int .i64 64] w fun e w' => e = .returned (.bool (prB l 64)) ∧ w = w' := isText_c l 64 (by decide) w
set_option maxRecDepth 100000 in
set_option maxHeartbeats 8000000 in
theorem printed_s (s : ByteArray) (m : Nat) (hs : s.size ≤ 140737488355328) (w : World) :
    Calls Tryz.prog 51 #[.string s, .int .i64 (m : Int)] w fun e w' => e = .returned (.bool (prB s.data.toList m)) ∧ w = w' := by
  have HSL : Hid (s.data.toList.length = s.size) := by show _ = _; rw [Array.length_toList]; rfl
  have HP : Hid (s.data.toList.all okP = false → prB s.data.toList m = false) := fun h => by unfold prB; rw [h]; simp
  go_enter Tryz.func51, Tryz.ntmps51
  go_wp2_with fail
  go_loopg [5] s.size (fun g s6 wx => ∃ k : Nat, k + g = s.size ∧ s6 = .int .i64 k ∧ Hid ((s.data.toList.take k).all okP = true) ∧ wx = w)
  case atStart => exact ⟨0, by omega, rfl, rfl, rfl⟩
  case round =>
    obtain ⟨k, hkg, rfl, HN, rfl⟩ := hrel
    rcases gk with _ | g
    · obtain rfl : k = s.size := by omega
      have HR : Hid (prB s.data.toList m = (decide (1 ≤ s.size) && decide (s.size ≤ m))) := by
        have h := HN.out
        rw [List.take_of_length_le (by rw [HSL.out]; exact Nat.le_refl _)] at h
        show _ = _
        unfold prB
        rw [h, HSL.out, Bool.true_and]
      go_wp2_with fail
      all_goals
        go_ret
        refine ⟨ret_bool ?_, rfl⟩
        rw [HR.out]
        simp <;> omega
    · have hk : k < s.size := by omega
      have hkI : (k : Int) < (s.size : Int) := by omega
      obtain ⟨h1', h2⟩ := byte_step okP s k hk HN.out
      obtain ⟨c, hc⟩ : ∃ c, s[k] = c := ⟨_, rfl⟩
      have hcc : (s[k].toNat : Int) = (c.toNat : Int) := by rw [hc]
      rw [hc] at h1' h2
      have H1 := Lib.hid h1'
      have H2 := Lib.hid h2
      have HOK : Hid (okP c = (decide (33 ≤ c.toNat) && decide (c.toNat ≤ 126))) := rfl
      clear h1' h2 hc
      obtain ⟨n, hn⟩ : ∃ n, c.toNat = n := ⟨_, rfl⟩
      rw [hn] at hcc HOK
      clear hn
      by_cases hok : okP c = true
      · have HR := Lib.hid (H1.out hok)
        have ho := hok
        rw [HOK.out] at ho
        simp only [Bool.and_eq_true, decide_eq_true_eq] at ho
        clear H1 H2 hok HOK
        go_wp2_with fail
        all_goals first
          | (go_roundg g
             case measure => omega
             case rel => exact ⟨k + 1, by omega, by go_num, HR, rfl⟩)
          | (exfalso; omega)
      · have HR := Lib.hid (HP.out (H2.out (by simpa using hok)))
        have ho := hok
        rw [HOK.out] at ho
        simp only [Bool.and_eq_true, decide_eq_true_eq] at ho
        clear H1 H2 hok HOK
        go_wp2_with fail
        all_goals first
          | (go_ret; exact ⟨ret_bool HR.out.symm, rfl⟩)
          | (exfalso; omega)
theorem printed_c (l : T) (m : Nat) (hs : l.length ≤ 140737488355328) (w : World) :
    Calls Tryz.prog 51 #[.string ⟨l.toArray⟩, .int .i64 (m : Int)] w fun e w' => e = .returned (.bool (prB l m)) ∧ w = w' := by
  simpa using printed_s ⟨l.toArray⟩ m (by rw [size_mk]; exact hs) w
theorem printed128 (l : T) (hs : l.length ≤ 140737488355328) (w : World) : Calls Tryz.prog 51 #[.string ⟨l.toArray⟩, .int .i64 128] w fun e w' => e = .returned (.bool (prB l 128)) ∧ w = w' := printed_c l 128 hs w
theorem printed64 (l : T) (hs : l.length ≤ 140737488355328) (w : World) : Calls Tryz.prog 51 #[.string ⟨l.toArray⟩, .int .i64 64] w fun e w' => e = .returned (.bool (prB l 64)) ∧ w = w' := printed_c l 64 hs w
set_option maxRecDepth 100000 in
set_option maxHeartbeats 8000000 in
theorem sharp_s (s : ByteArray) (hs : s.size ≤ 140737488355328) (w : World) :
    Calls Tryz.prog 52 #[.string s] w fun e w' => e = .returned (.bool (shB s.data.toList)) ∧ w = w' := by
  have HSL : Hid (s.data.toList.length = s.size) := by show _ = _; rw [Array.length_toList]; rfl
  have HSH : Hid (shB s.data.toList = !(s.data.toList.all fun c => !(c == 35))) := by show _ = _; unfold shB; rw [List.not_all_eq_any_not]; simp
  go_enter Tryz.func52, Tryz.ntmps52
  go_wp2_with fail
  go_loopg [3] s.size (fun g s6 wx => ∃ k : Nat, k + g = s.size ∧ s6 = .int .i64 k ∧ Hid ((s.data.toList.take k).all (fun c => !(c == 35)) = true) ∧ wx = w)
  case atStart => exact ⟨0, by omega, rfl, rfl, rfl⟩
  case round =>
    obtain ⟨k, hkg, rfl, HN, rfl⟩ := hrel
    rcases gk with _ | g
    · obtain rfl : k = s.size := by omega
      have HR : Hid (shB s.data.toList = false) := by
        have h := HN.out
        rw [List.take_of_length_le (by rw [HSL.out]; exact Nat.le_refl _)] at h
        show _ = _
        rw [HSH.out, h]; rfl
      go_wp2_with fail
      go_ret
      exact ⟨ret_bool HR.out.symm, rfl⟩
    · have hk : k < s.size := by omega
      have hkI : (k : Int) < (s.size : Int) := by omega
      obtain ⟨h1', h2⟩ := byte_step (fun c => !(c == 35)) s k hk HN.out
      obtain ⟨c, hc⟩ : ∃ c, s[k] = c := ⟨_, rfl⟩
      have hcc : (s[k].toNat : Int) = (c.toNat : Int) := by rw [hc]
      rw [hc] at h1' h2
      have H1 := Lib.hid h1'
      have H2 := Lib.hid h2
      clear h1' h2 hc
      by_cases hok : c = 35
      · have HR : Hid (shB s.data.toList = true) := by show _ = _; rw [HSH.out, H2.out (by simp [hok])]; rfl
        have ho : ((c.toNat : Int) == 35) = true := by rw [hok]; rfl
        clear H1 H2 hok
        obtain ⟨n, hn⟩ : ∃ n, c.toNat = n := ⟨_, rfl⟩
        rw [hn] at hcc ho
        go_wp2_with fail
        all_goals first
          | (go_ret; exact ⟨ret_bool HR.out.symm, rfl⟩)
          | (exfalso; simp at ho; omega)
      · have HR := Lib.hid (H1.out (by simpa using hok))
        have ho : ((c.toNat : Int) == 35) = false := fld.ne_byte hok
        clear H1 H2 hok
        obtain ⟨n, hn⟩ : ∃ n, c.toNat = n := ⟨_, rfl⟩
        rw [hn] at hcc ho
        go_wp2_with fail
        all_goals first
          | (go_roundg g
             case measure => omega
             case rel => exact ⟨k + 1, by omega, by go_num, HR, rfl⟩)
          | (exfalso; simp at ho; omega)
theorem sharp_c (l : T) (hs : l.length ≤ 140737488355328) (w : World) :
    Calls Tryz.prog 52 #[.string ⟨l.toArray⟩] w fun e w' => e = .returned (.bool (shB l)) ∧ w = w' := by
  simpa using sharp_s ⟨l.toArray⟩ (by rw [size_mk]; exact hs) w
end Go.Proofs.YtfeafhagnhbmiaaGreatDoor.rol
