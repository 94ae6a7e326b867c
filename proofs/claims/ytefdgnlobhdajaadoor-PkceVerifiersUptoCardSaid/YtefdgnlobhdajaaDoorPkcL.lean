/- PkceVerifiers (texts of at most 1048576 bytes), PkceChallenges, PkceChecks, PkceBack by PApi. -/
import Derived.Test.YtefdgnlobhdajaaDoorPkcApi
namespace Go.Proofs.YtefdgnlobhdajaaDoor.pkc
open Go.RowKit
open Go.Proofs.YtefdgnlobhdajaaDoor.oct Go.Proofs.YtefdgnlobhdajaaDoor.ref Go.Proofs.YtefdgnlobhdajaaDoor.rows Go.Proofs.YtefdgnlobhdajaaDoor.sha

theorem may_plain (c : T) : mayP c plainM = verB c := by unfold mayP; rw [if_pos rfl]
set_option maxRecDepth 100000 in
set_option maxHeartbeats 4000000 in
theorem law_verifiers {T' : World → Prop} (X : PApi T') (s m : T) (w : World) (hs : s.length ≤ 1048576) (hm : m.length ≤ 140737488351232) (ht : T' w) :
    Calls Tryd.prog 3 #[txt s, txt m] w fun e w' => e = .returned (.bool true) ∧ Below w.heap.size w w' := by
  have HT := Lib.hid ht
  have HX := Lib.hid X
  have HK := Lib.hid (pknown_c X w ht)
  have HV := Lib.hid (fun w ht => X.isv s w ht (by omega))
  have RV := Lib.hid (fun w => rverT_c s w)
  have HM := Lib.hid (fun w ht => X.may s m w ht (by omega) (by omega))
  have RM := Lib.hid (fun w => rmay_c s m w hs)
  have HH := Lib.hid (fun w ht => X.may s hashM w ht (by omega) (by decide))
  have RH := Lib.hid (fun w => rmay_c s hashM w hs)
  have HP := Lib.hid (fun w ht => X.may s plainM w ht (by omega) (by decide))
  rw [may_plain] at HP
  obtain ⟨b1, h1⟩ : ∃ b, verB s = b := ⟨_, rfl⟩
  obtain ⟨b2, h2⟩ : ∃ b, mayP s m = b := ⟨_, rfl⟩
  obtain ⟨b3, h3⟩ : ∃ b, mayP s hashM = b := ⟨_, rfl⟩
  rw [h1] at HV RV HP
  rw [h2] at HM RM
  rw [h3] at HH RH
  have e1 : (b1 == b1) = true := by simp
  have e2 : (b2 == b2) = true := by simp
  have e3 : (b3 == b3) = true := by simp
  unfold txt hashM plainM at *
  clear ht X h1 h2 h3
  go_enter Tryd.func3, Tryd.ntmps3
  go_wp2_with fail
  refine HK.out.mono ?_
  rintro e w1 ⟨rfl, hb1⟩
  have HW := Lib.hid hb1
  clear hb1
  go_wp2_with fail
  refine (HV.out w1 (HX.out.tbelow _ _ HT.out HW.out)).mono ?_
  rintro e w2 ⟨rfl, hb2⟩
  have HW := Lib.hid (bnext HW.out hb2)
  clear hb2
  go_wp2_with fail
  refine (RV.out w2).mono ?_
  rintro e w3 ⟨rfl, rfl⟩
  go_wp2_with fail
  refine (HM.out w2 (HX.out.tbelow _ _ HT.out HW.out)).mono ?_
  rintro e w3 ⟨rfl, hb3⟩
  have HW := Lib.hid (bnext HW.out hb3)
  clear hb3
  go_wp2_with fail
  refine (RM.out w3).mono ?_
  rintro e w4 ⟨rfl, hb4⟩
  have HW := Lib.hid (bnext HW.out hb4)
  clear hb4
  go_wp2_with fail
  refine (HH.out w4 (HX.out.tbelow _ _ HT.out HW.out)).mono ?_
  rintro e w5 ⟨rfl, hb5⟩
  have HW := Lib.hid (bnext HW.out hb5)
  clear hb5
  go_wp2_with fail
  refine (RH.out w5).mono ?_
  rintro e w6 ⟨rfl, hb6⟩
  have HW := Lib.hid (bnext HW.out hb6)
  clear hb6
  go_wp2_with fail
  refine (HP.out w6 (HX.out.tbelow _ _ HT.out HW.out)).mono ?_
  rintro e w7 ⟨rfl, hb7⟩
  have HW := Lib.hid (bnext HW.out hb7)
  clear hb7
  go_wp2_with fail
  refine (RV.out w7).mono ?_
  rintro e w8 ⟨rfl, rfl⟩
  go_wp2_with fail
  go_ret
  exact ⟨rfl, HW.out⟩
set_option maxRecDepth 100000 in
set_option maxHeartbeats 4000000 in
theorem law_challenges {T' : World → Prop} (X : PApi T') (s m : T) (w : World) (hs : s.length ≤ 140737488351232) (hm : m.length ≤ 140737488351232) (ht : T' w) :
    Calls Tryd.prog 4 #[txt s, txt m] w fun e w' => e = .returned (.bool true) ∧ Below w.heap.size w w' := by
  have HT := Lib.hid ht
  have HX := Lib.hid X
  have HK := Lib.hid (fun w ht => pknown_c X w ht)
  have HC := Lib.hid (X.chal s m w ht (by omega) (by omega))
  have RC := Lib.hid (fun w => rchal_c s m w hs)
  obtain ⟨q, hq⟩ : ∃ q, (chalP s m).1 = q := ⟨_, rfl⟩
  obtain ⟨Y, hY⟩ : ∃ Y, (chalP s m).2 = Y := ⟨_, rfl⟩
  rw [hq, hY] at HC RC
  have e1 : (Y == Y) = true := by simp
  have e2 : ((q : Int) == (q : Int)) = true := by simp
  unfold txt at *
  clear ht X hq hY
  go_enter Tryd.func4, Tryd.ntmps4
  go_wp2_with fail
  refine HC.out.mono ?_
  rintro e w1 ⟨rfl, hb1⟩
  have HW := Lib.hid hb1
  clear hb1
  go_wp2_with fail
  refine (RC.out w1).mono ?_
  rintro e w2 ⟨rfl, hb2⟩
  have HW := Lib.hid (bnext HW.out hb2)
  clear hb2
  go_wp2_with fail
  refine (HK.out w2 (HX.out.tbelow _ _ HT.out HW.out)).mono ?_
  rintro e w3 ⟨rfl, hb3⟩
  have HW := Lib.hid (bnext HW.out hb3)
  clear hb3
  go_wp2_with fail
  go_ret
  exact ⟨rfl, HW.out⟩
set_option maxRecDepth 100000 in
set_option maxHeartbeats 4000000 in
theorem law_checks {T' : World → Prop} (X : PApi T') (c m v : T) (w : World) (hc : c.length ≤ 140737488351232) (hm : m.length ≤ 140737488351232) (hv : v.length ≤ 140737488351232) (ht : T' w) :
    Calls Tryd.prog 5 #[txt c, txt m, txt v] w fun e w' => e = .returned (.bool true) ∧ Below w.heap.size w w' := by
  have HT := Lib.hid ht
  have HX := Lib.hid X
  have HK := Lib.hid (pknown_c X w ht)
  have HC := Lib.hid (fun w ht => X.check c m v w ht (by omega) (by omega) (by omega))
  have RC := Lib.hid (fun w => rcheck_c c m v w hv)
  obtain ⟨b1, h1⟩ : ∃ b, checkP c m v = b := ⟨_, rfl⟩
  rw [h1] at HC RC
  have e1 : (b1 == b1) = true := by simp
  unfold txt at *
  clear ht X h1
  go_enter Tryd.func5, Tryd.ntmps5
  go_wp2_with fail
  refine HK.out.mono ?_
  rintro e w1 ⟨rfl, hb1⟩
  have HW := Lib.hid hb1
  clear hb1
  go_wp2_with fail
  refine (HC.out w1 (HX.out.tbelow _ _ HT.out HW.out)).mono ?_
  rintro e w2 ⟨rfl, hb2⟩
  have HW := Lib.hid (bnext HW.out hb2)
  clear hb2
  go_wp2_with fail
  refine (RC.out w2).mono ?_
  rintro e w3 ⟨rfl, hb3⟩
  have HW := Lib.hid (bnext HW.out hb3)
  clear hb3
  go_wp2_with fail
  go_ret
  exact ⟨rfl, HW.out⟩
end Go.Proofs.YtefdgnlobhdajaaDoor.pkc
