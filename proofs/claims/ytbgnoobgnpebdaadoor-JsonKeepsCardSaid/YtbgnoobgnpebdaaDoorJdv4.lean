/- The contracts of the developers' plain, marked, octet. Texts of up to 2^47 - 4096 bytes. -/
import Derived.Test.YtbgnoobgnpebdaaDoorJdv3
namespace Go.Proofs.YtbgnoobgnpebdaaDoor.jdv
open Go.RowKit
open Go.Proofs.YtbgnoobgnpebdaaDoor.oct Go.Proofs.YtbgnoobgnpebdaaDoor.ref Go.Proofs.YtbgnoobgnpebdaaDoor.rows Go.Proofs.YtbgnoobgnpebdaaDoor.rowg Go.Proofs.YtbgnoobgnpebdaaDoor.jsn
open Go.Lib (byteCells hasPrefix trimPrefix)

set_option maxHeartbeats 1000000 in
theorem plain_c (c : UInt8) (w : World) : Calls Tryd.prog 46 #[.int .u8 (c.toNat : Int)] w fun e w' => e = .returned (.bool (plainC c)) ∧ w = w' := by
  obtain ⟨n, hn⟩ : ∃ n, c.toNat = n := ⟨_, rfl⟩
  have HP : Hid (plainC c = (decide (32 ≤ n) && decide (n ≤ 126))) := by show _ = _; rw [← hn]; rfl
  rw [hn]
  clear hn
  by_cases h1 : 32 ≤ n
  · by_cases h2 : n ≤ 126
    · have HV : Hid (plainC c = true) := by show _ = _; rw [HP.out]; simp [h1, h2]
      have i1 : (32 : Int) ≤ (n : Int) := by omega
      have i2 : (n : Int) ≤ 126 := by omega
      clear h1 h2 HP
      go_enter Tryd.func46, Tryd.ntmps46
      go_wp2
      go_ret
      exact ⟨by rw [HV.out]; rfl, rfl⟩
    · have HV : Hid (plainC c = false) := by show _ = _; rw [HP.out]; simp [h2]
      have i1 : (32 : Int) ≤ (n : Int) := by omega
      have i2 : ¬ (n : Int) ≤ 126 := by omega
      clear h1 h2 HP
      go_enter Tryd.func46, Tryd.ntmps46
      go_wp2
      go_ret
      exact ⟨by rw [HV.out]; rfl, rfl⟩
  · have HV : Hid (plainC c = false) := by show _ = _; rw [HP.out]; simp [h1]
    have i1 : ¬ (32 : Int) ≤ (n : Int) := by omega
    clear h1 HP
    go_enter Tryd.func46, Tryd.ntmps46
    go_wp2
    go_ret
    exact ⟨by rw [HV.out]; rfl, rfl⟩
set_option maxHeartbeats 1000000 in
theorem marked_c (c : UInt8) (w : World) : Calls Tryd.prog 48 #[.int .u8 (c.toNat : Int)] w fun e w' => e = .returned (.bool (markC c)) ∧ w = w' := by
  obtain ⟨n, hn⟩ : ∃ n, c.toNat = n := ⟨_, rfl⟩
  have HP : Hid (markC c = (decide (n = 34) || decide (n = 92))) := by
    show _ = _
    rw [← hn, Bool.eq_iff_iff, markC_iff, Bool.or_eq_true, decide_eq_true_iff, decide_eq_true_iff, ← UInt8.toNat_inj, ← UInt8.toNat_inj]
    rfl
  rw [hn]
  clear hn
  have e34 : ((⟨#[34]⟩ : ByteArray)[0]'(by decide)).toNat = 34 := rfl
  have e92 : ((⟨#[92]⟩ : ByteArray)[0]'(by decide)).toNat = 92 := rfl
  by_cases h1 : n = 34
  · have HV : Hid (markC c = true) := by show _ = _; rw [HP.out]; simp [h1]
    have i1 : ((n : Int) == 34) = true := by rw [beq_iff_eq]; omega
    clear h1 HP
    go_enter Tryd.func48, Tryd.ntmps48
    go_wp2
    go_ret
    exact ⟨by rw [HV.out]; rfl, rfl⟩
  · have i1 : ((n : Int) == 34) = false := by rw [beq_eq_false_iff_ne]; omega
    by_cases h2 : n = 92
    · have HV : Hid (markC c = true) := by show _ = _; rw [HP.out]; simp [h2]
      have i2 : ((n : Int) == 92) = true := by rw [beq_iff_eq]; omega
      clear h1 h2 HP
      go_enter Tryd.func48, Tryd.ntmps48
      go_wp2
      go_ret
      exact ⟨by rw [HV.out]; rfl, rfl⟩
    · have HV : Hid (markC c = false) := by show _ = _; rw [HP.out]; simp [h1, h2]
      have i2 : ((n : Int) == 92) = false := by rw [beq_eq_false_iff_ne]; omega
      clear h1 h2 HP
      go_enter Tryd.func48, Tryd.ntmps48
      go_wp2
      go_ret
      exact ⟨by rw [HV.out]; rfl, rfl⟩
theorem or_nib : ∀ x < 16, ∀ y < 16, bits .or .u8 (((x : Nat) : Int) * 16) ((y : Nat) : Int) = ((16 * x + y : Nat) : Int) := by decide +kernel
set_option maxHeartbeats 2000000 in
theorem octet_esc (b : Nat) (l r1 r2 : List UInt8) (x y : Nat) (w : World) (hr : Rd w b l) (hl : l.length ≤ 140737488351232) (h0 : hasPrefix l [92, 117, 48, 48] = true) (h1 : fourP (l.drop 4) = some (x, r1)) (h2 : fourP r1 = some (y, r2)) (h3 : plainC (UInt8.ofNat (16 * x + y)) = false) :
    Calls Tryd.prog 65 #[.pointer (some ⟨b, 0, none⟩)] w fun e w' => e = .returned (.int .u8 ((UInt8.ofNat (16 * x + y)).toNat : Int)) ∧ RK b w w' ∧ Rd w' b r2 := by
  have H0 := Lib.hid (took_yes b l [92, 117, 48, 48] w hr h0)
  obtain ⟨_, e1, _, hx⟩ := fourP_some h1
  obtain ⟨_, e2, _, hy⟩ := fourP_some h2
  have l1 : (l.drop 4).length ≤ 140737488351232 := by rw [List.length_drop]; omega
  have l2 : r1.length ≤ 140737488351232 := by rw [e1] at l1; simp at l1; omega
  have hor := or_nib x hx y hy
  obtain ⟨Z, hZ⟩ : ∃ Z, UInt8.ofNat (16 * x + y) = Z := ⟨_, rfl⟩
  have hN : 16 * x + y = Z.toNat := by rw [← hZ, UInt8.toNat_ofNat', Nat.mod_eq_of_lt (by omega)]
  rw [hZ] at h3 ⊢
  rw [hN] at hor
  have HP := Lib.hid (fun w => plain_c Z w)
  rw [h3] at HP
  have H1 := Lib.hid h1
  have H2 := Lib.hid h2
  clear e1 e2 h1 h2 h3 hr h0 hZ hN
  go_enter Tryd.func65, Tryd.ntmps65
  go_wp2_with (go_at_call 52; refine H0.out.mono ?_; rintro e w1 ⟨rfl, hk1, hr1⟩)
  have H3 := Lib.hid (four_yes b _ r1 x w1 hr1 l1 H1.out)
  clear hr1
  go_wp2_with (go_at_call 73; refine H3.out.mono ?_; rintro e w2 ⟨rfl, hk2, hr2⟩)
  refine (four_yes b _ r2 y w2 hr2 l2 H2.out).mono ?_
  rintro e w3 ⟨rfl, hk3, hr3⟩
  have HK := Lib.hid (hk1.trans (hk2.trans hk3))
  clear hk1 hk2 hk3 hr2 H3
  go_wp2_with (go_at_call 46; refine (HP.out _).mono ?_; rintro e w4 ⟨rfl, rfl⟩)
  go_ret
  exact ⟨rfl, HK.out, hr3⟩
set_option maxHeartbeats 2000000 in
theorem octet_esc_plain (b : Nat) (l r1 r2 : List UInt8) (x y : Nat) (w : World) (hr : Rd w b l) (hl : l.length ≤ 140737488351232) (h0 : hasPrefix l [92, 117, 48, 48] = true) (h1 : fourP (l.drop 4) = some (x, r1)) (h2 : fourP r1 = some (y, r2)) (h3 : plainC (UInt8.ofNat (16 * x + y)) = true) :
    Calls Tryd.prog 65 #[.pointer (some ⟨b, 0, none⟩)] w fun e w' => e = .panicked [{ v := .iface 23 (.int .i64 3), recovered := false }] ∧ RK b w w' := by
  have H0 := Lib.hid (took_yes b l [92, 117, 48, 48] w hr h0)
  obtain ⟨_, e1, _, hx⟩ := fourP_some h1
  obtain ⟨_, e2, _, hy⟩ := fourP_some h2
  have l1 : (l.drop 4).length ≤ 140737488351232 := by rw [List.length_drop]; omega
  have l2 : r1.length ≤ 140737488351232 := by rw [e1] at l1; simp at l1; omega
  have hor := or_nib x hx y hy
  obtain ⟨Z, hZ⟩ : ∃ Z, UInt8.ofNat (16 * x + y) = Z := ⟨_, rfl⟩
  have hN : 16 * x + y = Z.toNat := by rw [← hZ, UInt8.toNat_ofNat', Nat.mod_eq_of_lt (by omega)]
  rw [hZ] at h3
  rw [hN] at hor
  have HP := Lib.hid (fun w => plain_c Z w)
  rw [h3] at HP
  have H1 := Lib.hid h1
  have H2 := Lib.hid h2
  clear e1 e2 h1 h2 h3 hr h0 hZ hN
  go_enter Tryd.func65, Tryd.ntmps65
  go_wp2_with (go_at_call 52; refine H0.out.mono ?_; rintro e w1 ⟨rfl, hk1, hr1⟩)
  have H3 := Lib.hid (four_yes b _ r1 x w1 hr1 l1 H1.out)
  clear hr1
  go_wp2_with (go_at_call 73; refine H3.out.mono ?_; rintro e w2 ⟨rfl, hk2, hr2⟩)
  refine (four_yes b _ r2 y w2 hr2 l2 H2.out).mono ?_
  rintro e w3 ⟨rfl, hk3, hr3⟩
  have HK := Lib.hid (hk1.trans (hk2.trans hk3))
  clear hk1 hk2 hk3 hr2 H3
  go_wp2_with (first | (go_at_call 46; refine (HP.out _).mono ?_; rintro e w4 ⟨rfl, rfl⟩) | (go_at_call 42; refine (giveUp_c _).mono ?_; rintro e w5 ⟨rfl, rfl⟩))
  exact ⟨rfl, rfl, HK.out⟩
set_option maxHeartbeats 2000000 in
theorem octet_esc_n1 (b : Nat) (l : List UInt8) (w : World) (hr : Rd w b l) (hl : l.length ≤ 140737488351232) (h0 : hasPrefix l [92, 117, 48, 48] = true) (h1 : fourP (l.drop 4) = none) :
    Calls Tryd.prog 65 #[.pointer (some ⟨b, 0, none⟩)] w fun e w' => e = .panicked [{ v := .iface 23 (.int .i64 3), recovered := false }] ∧ RK b w w' := by
  have H0 := Lib.hid (took_yes b l [92, 117, 48, 48] w hr h0)
  have l1 : (l.drop 4).length ≤ 140737488351232 := by rw [List.length_drop]; omega
  have H1 := Lib.hid h1
  clear h1 hr h0
  go_enter Tryd.func65, Tryd.ntmps65
  go_wp2_with (go_at_call 52; refine H0.out.mono ?_; rintro e w1 ⟨rfl, hk1, hr1⟩)
  have H3 := Lib.hid (four_no b _ w1 hr1 l1 H1.out)
  clear hr1
  go_wp2_with (go_at_call 73; refine H3.out.mono ?_; rintro e w2 ⟨rfl, hk2⟩)
  exact ⟨rfl, rfl, hk1.trans hk2⟩
set_option maxHeartbeats 2000000 in
theorem octet_esc_n2 (b : Nat) (l r1 : List UInt8) (x : Nat) (w : World) (hr : Rd w b l) (hl : l.length ≤ 140737488351232) (h0 : hasPrefix l [92, 117, 48, 48] = true) (h1 : fourP (l.drop 4) = some (x, r1)) (h2 : fourP r1 = none) :
    Calls Tryd.prog 65 #[.pointer (some ⟨b, 0, none⟩)] w fun e w' => e = .panicked [{ v := .iface 23 (.int .i64 3), recovered := false }] ∧ RK b w w' := by
  have H0 := Lib.hid (took_yes b l [92, 117, 48, 48] w hr h0)
  obtain ⟨_, e1, _, hx⟩ := fourP_some h1
  have l1 : (l.drop 4).length ≤ 140737488351232 := by rw [List.length_drop]; omega
  have l2 : r1.length ≤ 140737488351232 := by rw [e1] at l1; simp at l1; omega
  have H1 := Lib.hid h1
  have H2 := Lib.hid h2
  clear e1 h1 h2 hr h0
  go_enter Tryd.func65, Tryd.ntmps65
  go_wp2_with (go_at_call 52; refine H0.out.mono ?_; rintro e w1 ⟨rfl, hk1, hr1⟩)
  have H3 := Lib.hid (four_yes b _ r1 x w1 hr1 l1 H1.out)
  clear hr1
  go_wp2_with (go_at_call 73; refine H3.out.mono ?_; rintro e w2 ⟨rfl, hk2, hr2⟩)
  refine (four_no b _ w2 hr2 l2 H2.out).mono ?_
  rintro e w3 ⟨rfl, hk3⟩
  have HK := Lib.hid (hk1.trans (hk2.trans hk3))
  clear hk1 hk2 hk3 hr2 H3
  go_wp2_with fail
  exact ⟨rfl, rfl, HK.out⟩
/-- what is left behind the question whether a \ comes -/
def leftP (l : List UInt8) : List UInt8 := if hasPrefix l [92] = true then l.drop 1 else l
theorem took92 (b : Nat) (l : List UInt8) (w : World) (hr : Rd w b l) :
    Calls Tryd.prog 52 #[.pointer (some ⟨b, 0, none⟩), .string ⟨#[92]⟩] w fun e w' => e = .returned (.bool (hasPrefix l [92])) ∧ RK b w w' ∧ Rd w' b (leftP l) :=
  (took_c b l [92] w hr).mono fun e w' ⟨he, hw⟩ => ⟨he, by rw [hw]; exact RK.set _ _ _, by rw [hw]; exact hr.set _⟩
theorem leftP_len (l : List UInt8) : (leftP l).length ≤ l.length := by
  unfold leftP
  split
  · rw [List.length_drop]; omega
  · exact Nat.le_refl _
theorem octP_left (l : List UInt8) (h : hasPrefix l [92, 117, 48, 48] = false) : octP l = nextP (hasPrefix l [92]) (leftP l) := by
  unfold octP leftP
  rw [if_neg (by rw [h]; decide)]
  cases hasPrefix l [92] <;> rfl
set_option maxHeartbeats 2000000 in
theorem octet_sign (b : Nat) (l r : List UInt8) (c : UInt8) (w : World) (hr : Rd w b l) (hl : l.length ≤ 140737488351232) (h0 : hasPrefix l [92, 117, 48, 48] = false) (h1 : leftP l = c :: r) (h2 : plainC c = true) (h3 : markC c = hasPrefix l [92]) :
    Calls Tryd.prog 65 #[.pointer (some ⟨b, 0, none⟩)] w fun e w' => e = .returned (.int .u8 (c.toNat : Int)) ∧ RK b w w' ∧ Rd w' b r := by
  have H0 := Lib.hid (took_no b l [92, 117, 48, 48] w hr h0)
  have H1 := Lib.hid (fun w hr => took92 b l w hr)
  have HL := leftP_len l
  rw [h1] at HL H1
  rw [List.length_cons] at HL
  have hlr : r.length ≤ 140737488351232 := by omega
  have HP := Lib.hid (fun w => plain_c c w)
  have HM := Lib.hid (fun w => marked_c c w)
  rw [h2] at HP
  rw [h3] at HM
  clear HL h1 h2 h3 hr h0 hl
  obtain ⟨k, hk⟩ : ∃ k, hasPrefix l [92] = k := ⟨_, rfl⟩
  rw [hk] at H1 HM
  clear hk
  go_enter Tryd.func65, Tryd.ntmps65
  go_wp2_with fail
  refine H0.out.mono ?_
  rintro e w1 ⟨rfl, hk1, hr1⟩
  go_wp2_with fail
  refine (H1.out _ hr1).mono ?_
  rintro e w2 ⟨rfl, hk2, hr2⟩
  have H3 := Lib.hid (next_some b c r w2 hr2 hlr)
  have HK := Lib.hid (hk1.trans hk2)
  clear hr1 hr2 hk1 hk2
  go_wp2_with (first | (go_at_call 74; refine H3.out.mono ?_; rintro e w3 ⟨rfl, hk3, hr3⟩) | (go_at_call 46; refine (HP.out _).mono ?_; rintro e w4 ⟨rfl, rfl⟩) | (go_at_call 48; refine (HM.out _).mono ?_; rintro e w5 ⟨rfl, rfl⟩))
  go_ret
  exact ⟨rfl, HK.out.trans hk3, hr3⟩
set_option maxHeartbeats 2000000 in
theorem octet_bad (b : Nat) (l r : List UInt8) (c : UInt8) (w : World) (hr : Rd w b l) (hl : l.length ≤ 140737488351232) (h0 : hasPrefix l [92, 117, 48, 48] = false) (h1 : leftP l = c :: r) (h2 : plainC c = false) :
    Calls Tryd.prog 65 #[.pointer (some ⟨b, 0, none⟩)] w fun e w' => e = .panicked [{ v := .iface 23 (.int .i64 3), recovered := false }] ∧ RK b w w' := by
  have H0 := Lib.hid (took_no b l [92, 117, 48, 48] w hr h0)
  have H1 := Lib.hid (fun w hr => took92 b l w hr)
  have HL := leftP_len l
  rw [h1] at HL H1
  rw [List.length_cons] at HL
  have hlr : r.length ≤ 140737488351232 := by omega
  have HP := Lib.hid (fun w => plain_c c w)
  rw [h2] at HP
  clear HL h1 h2 hr h0 hl
  obtain ⟨k, hk⟩ : ∃ k, hasPrefix l [92] = k := ⟨_, rfl⟩
  rw [hk] at H1
  clear hk
  go_enter Tryd.func65, Tryd.ntmps65
  go_wp2_with fail
  refine H0.out.mono ?_
  rintro e w1 ⟨rfl, hk1, hr1⟩
  go_wp2_with fail
  refine (H1.out _ hr1).mono ?_
  rintro e w2 ⟨rfl, hk2, hr2⟩
  have H3 := Lib.hid (next_some b c r w2 hr2 hlr)
  have HK := Lib.hid (hk1.trans hk2)
  clear hr1 hr2 hk1 hk2
  go_wp2_with (first | (go_at_call 74; refine H3.out.mono ?_; rintro e w3 ⟨rfl, hk3, hr3⟩) | (go_at_call 46; refine (HP.out _).mono ?_; rintro e w4 ⟨rfl, rfl⟩) | (go_at_call 42; refine (giveUp_c _).mono ?_; rintro e w5 ⟨rfl, rfl⟩))
  exact ⟨rfl, rfl, HK.out.trans hk3⟩
set_option maxHeartbeats 2000000 in
theorem octet_odd (b : Nat) (l r : List UInt8) (c : UInt8) (w : World) (hr : Rd w b l) (hl : l.length ≤ 140737488351232) (h0 : hasPrefix l [92, 117, 48, 48] = false) (h1 : leftP l = c :: r) (h2 : plainC c = true) (h3 : markC c = !(hasPrefix l [92])) :
    Calls Tryd.prog 65 #[.pointer (some ⟨b, 0, none⟩)] w fun e w' => e = .panicked [{ v := .iface 23 (.int .i64 3), recovered := false }] ∧ RK b w w' := by
  have H0 := Lib.hid (took_no b l [92, 117, 48, 48] w hr h0)
  have H1 := Lib.hid (fun w hr => took92 b l w hr)
  have HL := leftP_len l
  rw [h1] at HL H1
  rw [List.length_cons] at HL
  have hlr : r.length ≤ 140737488351232 := by omega
  have HP := Lib.hid (fun w => plain_c c w)
  have HM := Lib.hid (fun w => marked_c c w)
  rw [h2] at HP
  rw [h3] at HM
  clear HL h1 h2 h3 hr h0 hl
  obtain ⟨k, hk⟩ : ∃ k, hasPrefix l [92] = k := ⟨_, rfl⟩
  rw [hk] at H1 HM
  clear hk
  cases k
  all_goals
    simp only [Bool.not_false, Bool.not_true] at HM
    go_enter Tryd.func65, Tryd.ntmps65
    go_wp2_with fail
    refine H0.out.mono ?_
    rintro e w1 ⟨rfl, hk1, hr1⟩
    go_wp2_with fail
    refine (H1.out _ hr1).mono ?_
    rintro e w2 ⟨rfl, hk2, hr2⟩
    have H3 := Lib.hid (next_some b c r w2 hr2 hlr)
    have HK := Lib.hid (hk1.trans hk2)
    clear hr1 hr2 hk1 hk2
    go_wp2_with (first | (go_at_call 74; refine H3.out.mono ?_; rintro e w3 ⟨rfl, hk3, hr3⟩) | (go_at_call 46; refine (HP.out _).mono ?_; rintro e w4 ⟨rfl, rfl⟩) | (go_at_call 48; refine (HM.out _).mono ?_; rintro e w5 ⟨rfl, rfl⟩) | (go_at_call 42; refine (giveUp_c _).mono ?_; rintro e w5 ⟨rfl, rfl⟩))
    exact ⟨rfl, rfl, HK.out.trans hk3⟩
set_option maxHeartbeats 2000000 in
theorem octet_end (b : Nat) (l : List UInt8) (w : World) (hr : Rd w b l) (h0 : hasPrefix l [92, 117, 48, 48] = false) (h1 : leftP l = []) :
    Calls Tryd.prog 65 #[.pointer (some ⟨b, 0, none⟩)] w fun e w' => e = .panicked [{ v := .iface 23 (.int .i64 3), recovered := false }] ∧ RK b w w' := by
  have H0 := Lib.hid (took_no b l [92, 117, 48, 48] w hr h0)
  have H1 := Lib.hid (fun w hr => took92 b l w hr)
  rw [h1] at H1
  clear h1 hr h0
  obtain ⟨k, hk⟩ : ∃ k, hasPrefix l [92] = k := ⟨_, rfl⟩
  rw [hk] at H1
  clear hk
  go_enter Tryd.func65, Tryd.ntmps65
  go_wp2_with fail
  refine H0.out.mono ?_
  rintro e w1 ⟨rfl, hk1, hr1⟩
  go_wp2_with fail
  refine (H1.out _ hr1).mono ?_
  rintro e w2 ⟨rfl, hk2, hr2⟩
  have H3 := Lib.hid (next_none b w2 hr2)
  have HK := Lib.hid (hk1.trans hk2)
  clear hr1 hr2 hk1 hk2
  go_wp2_with (go_at_call 74; refine H3.out.mono ?_; rintro e w3 ⟨rfl, hk3⟩)
  exact ⟨rfl, rfl, HK.out.trans hk3⟩
/-- as the plain reader says -/
theorem octet_yes (b : Nat) (l r : List UInt8) (c : UInt8) (w : World) (hr : Rd w b l) (hl : l.length ≤ 140737488351232) (h : octP l = some (c, r)) :
    Calls Tryd.prog 65 #[.pointer (some ⟨b, 0, none⟩)] w fun e w' => e = .returned (.int .u8 (c.toNat : Int)) ∧ RK b w w' ∧ Rd w' b r := by
  by_cases h0 : hasPrefix l [92, 117, 48, 48] = true
  · unfold octP at h
    rw [if_pos h0] at h
    unfold escO at h
    cases h1 : fourP (l.drop 4) with
    | none => rw [h1] at h; cases h
    | some y =>
      obtain ⟨x, r1⟩ := y
      rw [h1] at h
      dsimp only at h
      cases h2 : fourP r1 with
      | none => rw [h2] at h; cases h
      | some y =>
        obtain ⟨y, r2⟩ := y
        rw [h2] at h
        dsimp only at h
        by_cases h3 : plainC (UInt8.ofNat (16 * x + y)) = true
        · rw [if_pos h3] at h; cases h
        · rw [if_neg h3] at h
          cases h
          exact octet_esc b l r1 _ x y w hr hl h0 h1 h2 (by simpa using h3)
  · have h0' : hasPrefix l [92, 117, 48, 48] = false := by simpa using h0
    rw [octP_left l h0'] at h
    obtain ⟨h1, h2, h3⟩ := nextP_some h
    exact octet_sign b l r c w hr hl h0' h1 h2 h3
theorem octet_no (b : Nat) (l : List UInt8) (w : World) (hr : Rd w b l) (hl : l.length ≤ 140737488351232) (h : octP l = none) :
    Calls Tryd.prog 65 #[.pointer (some ⟨b, 0, none⟩)] w fun e w' => e = .panicked [{ v := .iface 23 (.int .i64 3), recovered := false }] ∧ RK b w w' := by
  by_cases h0 : hasPrefix l [92, 117, 48, 48] = true
  · unfold octP at h
    rw [if_pos h0] at h
    unfold escO at h
    cases h1 : fourP (l.drop 4) with
    | none => exact octet_esc_n1 b l w hr hl h0 h1
    | some y =>
      obtain ⟨x, r1⟩ := y
      rw [h1] at h
      dsimp only at h
      cases h2 : fourP r1 with
      | none => exact octet_esc_n2 b l r1 x w hr hl h0 h1 h2
      | some y =>
        obtain ⟨y, r2⟩ := y
        rw [h2] at h
        dsimp only at h
        by_cases h3 : plainC (UInt8.ofNat (16 * x + y)) = true
        · exact octet_esc_plain b l r1 r2 x y w hr hl h0 h1 h2 h3
        · rw [if_neg h3] at h; cases h
  · have h0' : hasPrefix l [92, 117, 48, 48] = false := by simpa using h0
    rw [octP_left l h0'] at h
    cases h1 : leftP l with
    | nil => exact octet_end b l w hr h0' h1
    | cons c r =>
      rw [h1, nextP_cons] at h
      by_cases h2 : plainC c = true
      · by_cases h3 : markC c = hasPrefix l [92]
        · rw [if_pos ⟨h2, h3⟩] at h; cases h
        · exact octet_odd b l r c w hr hl h0' h1 h2 (by cases h4 : markC c <;> cases h5 : hasPrefix l [92] <;> simp_all)
      · exact octet_bad b l r c w hr hl h0' h1 (by simpa using h2)
end Go.Proofs.YtbgnoobgnpebdaaDoor.jdv
