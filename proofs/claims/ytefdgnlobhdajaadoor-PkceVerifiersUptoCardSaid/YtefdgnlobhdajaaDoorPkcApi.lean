/- What the laws of pkce ask of the program's calls (PApi: each answers the plain forms; T': what of the package's variables they need); the fixed question. -/
import Derived.Test.YtefdgnlobhdajaaDoorPkc5
namespace Go.Proofs.YtefdgnlobhdajaaDoor.pkc
open Go.RowKit
open Go.Proofs.YtefdgnlobhdajaaDoor.oct Go.Proofs.YtefdgnlobhdajaaDoor.ref Go.Proofs.YtefdgnlobhdajaaDoor.rows Go.Proofs.YtefdgnlobhdajaaDoor.sha

structure PApi (T' : World → Prop) : Prop where
  tbelow : ∀ w w', T' w → Below w.heap.size w w' → T' w'
  isv : ∀ l w, T' w → l.length ≤ 140737488355328 → Calls Tryd.prog 8 #[txt l] w fun e w' => e = .returned (.bool (verB l)) ∧ Below w.heap.size w w'
  may : ∀ c m w, T' w → c.length ≤ 140737488355328 → m.length ≤ 140737488355328 → Calls Tryd.prog 10 #[txt c, txt m] w fun e w' => e = .returned (.bool (mayP c m)) ∧ Below w.heap.size w w'
  chal : ∀ v m w, T' w → v.length ≤ 140737488355328 → m.length ≤ 140737488355328 → Calls Tryd.prog 12 #[txt v, txt m] w fun e w' => e = .returned (.tuple #[txt (chalP v m).2, .int .i64 ((chalP v m).1 : Nat)]) ∧ Below w.heap.size w w'
  check : ∀ c m v w, T' w → c.length ≤ 140737488355328 → m.length ≤ 140737488355328 → v.length ≤ 140737488355328 → Calls Tryd.prog 14 #[txt c, txt m, txt v] w fun e w' => e = .returned (.bool (checkP c m v)) ∧ Below w.heap.size w w'
set_option maxRecDepth 100000 in
set_option maxHeartbeats 2000000 in
theorem pknown_c {T' : World → Prop} (X : PApi T') (w : World) (ht : T' w) : Calls Tryd.prog 7 #[] w fun e w' => e = .returned (.bool true) ∧ Below w.heap.size w w' := by
  have HT := Lib.hid ht
  have HX := Lib.hid X
  have HC := Lib.hid (X.chal verK hashM w ht (by decide) (by decide))
  have HV := Lib.hid (fun w ht => X.isv verK w ht (by decide))
  have HM := Lib.hid (fun w ht => X.may chalK hashM w ht (by decide) (by decide))
  have HK := Lib.hid (fun w ht => X.check chalK hashM verK w ht (by decide) (by decide) (by decide))
  rw [v_chal] at HC
  rw [v_ver] at HV
  rw [v_may] at HM
  rw [v_check] at HK
  unfold txt verK hashM chalK at *
  clear ht X
  go_enter Tryd.func7, Tryd.ntmps7
  go_wp2_with fail
  refine HC.out.mono ?_
  rintro e w1 ⟨rfl, hb1⟩
  have HB1 := Lib.hid hb1
  clear hb1
  go_wp2_with fail
  refine (HV.out w1 (HX.out.tbelow _ _ HT.out HB1.out)).mono ?_
  rintro e w2 ⟨rfl, hb2⟩
  have HB2 := Lib.hid (bnext HB1.out hb2)
  clear hb2
  go_wp2_with fail
  refine (HM.out w2 (HX.out.tbelow _ _ HT.out HB2.out)).mono ?_
  rintro e w3 ⟨rfl, hb3⟩
  have HB3 := Lib.hid (bnext HB2.out hb3)
  clear hb3
  go_wp2_with fail
  refine (HK.out w3 (HX.out.tbelow _ _ HT.out HB3.out)).mono ?_
  rintro e w4 ⟨rfl, hb4⟩
  have HB4 := Lib.hid (bnext HB3.out hb4)
  clear hb4
  go_wp2_with fail
  go_ret
  exact ⟨rfl, HB4.out⟩
end Go.Proofs.YtefdgnlobhdajaaDoor.pkc
