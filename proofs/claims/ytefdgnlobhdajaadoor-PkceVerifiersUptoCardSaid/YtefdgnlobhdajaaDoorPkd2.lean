/- The contracts of the developers' digest and isDigest. -/
import Derived.Test.YtefdgnlobhdajaaDoorPkcApi
import Derived.Test.YtefdgnlobhdajaaDoorDevA0
namespace Go.Proofs.YtefdgnlobhdajaaDoor.pkc
open Go.RowKit
open Go.Proofs.YtefdgnlobhdajaaDoor.oct Go.Proofs.YtefdgnlobhdajaaDoor.ref Go.Proofs.YtefdgnlobhdajaaDoor.rows Go.Proofs.YtefdgnlobhdajaaDoor.sha
open Go.Lib (byteCells)

theorem infoDS7 : (Tryd.prog.info? 65).map (·.size) = some 32 := by kernel_rfl
set_option maxRecDepth 100000 in
set_option maxHeartbeats 4000000 in
theorem digest_c (v : T) (w : World) (ht : Tabs w) (hl : v.length ≤ 1048576) :
    Calls Tryd.prog 32 #[txt v] w fun e w' => e = .returned (txt (hashT v)) ∧ Below w.heap.size w w' := by
  obtain ⟨W, cp, hcv, h8, hcp, hbW⟩ := conv_row v w
  have HS := Lib.hid (sum_top (some ⟨w.heap.size, 0, none⟩) cp v W (ht.below hbW) h8 (by omega) ⟨(fun h => by cases h), hcp⟩)
  have HBW := Lib.hid hbW
  have hdl := digest_len v
  have HH : Hid (hashT v = webT (digest v)) := rfl
  have HNL : Hid (32 = (byteCells (digest v)).length) := by show _ = _; rw [byteCells_len, hdl]
  have HI : Hid ((Tryd.prog.info? 65).map (·.size) = some (byteCells (digest v)).length) := by show _ = _; rw [byteCells_len, hdl]; exact infoDS7
  have HO := Lib.hid (bytes_one (digest v))
  obtain ⟨D, hD⟩ : ∃ D, digest v = D := ⟨_, rfl⟩
  obtain ⟨X, hX⟩ : ∃ X, hashT v = X := ⟨_, rfl⟩
  rw [hD] at HS hdl HNL HI HO HH
  rw [hX] at HH ⊢
  have HDL := Lib.hid hdl
  unfold txt at *
  unfold dval at HS
  clear h8 hbW hD hX hdl ht
  go_enter Tryd.func32, Tryd.ntmps32
  go_wp2_with fail
  refine HS.out.mono ?_
  rintro e w1 ⟨rfl, hb1⟩
  have HB1 := Lib.hid (bnext HBW.out hb1)
  have har := fun (w : World) (b o : Nat) => arr_all (P := Tryd.prog) w 65 5 32 b o Tryd.underlying65 infoB8
  clear hb1 HS hcv
  go_wp2_with ((with_reducible refine wpList_store_new rfl 65 (.tmp 3) (.tmp 6) rfl (byteCells D) 65 _ rfl rfl HI.out (Eq.trans (by decide) HNL.out) HO.out ?_); intro w2 hS hSb hz; clear hz; have H8 := Lib.hid (in8_all hS); have hb2 := Lib.hid (bnext HB1.out hSb); clear hS hSb)
  have HWB := Lib.hid (web_c (some ⟨w1.heap.size, 0, none⟩) 32 D w2 H8.out (by rw [HDL.out]; decide))
  rw [HDL.out, ← HH.out] at HWB
  refine HWB.out.mono ?_
  rintro e w3 ⟨rfl, hb3⟩
  go_wp2_with fail
  go_ret
  exact ⟨rfl, bnext hb2.out hb3⟩
theorem mays_len {c : T} (h : c.length ≠ 43) : mayS c = false := by
  by_cases hx : ∃ o, webT o = c
  · obtain ⟨o, ho⟩ := hx
    rw [mayS_of ho, decide_eq_false_iff_not]
    intro h32
    exact h (by rw [← ho, webT_len, h32])
  · exact mayS_none fun o ho => hx ⟨o, ho⟩
theorem mays_web {o c : T} (h : webT o = c) (hc : c.length = 43) : mayS c = true := by
  rw [mayS_of h, decide_eq_true_iff]
  rw [← h, webT_len] at hc
  omega
set_option maxRecDepth 100000 in
set_option maxHeartbeats 4000000 in
theorem isDigest_c (c : T) (w : World) :
    Calls Tryd.prog 31 #[txt c] w fun e w' => e = .returned (.bool (mayS c)) ∧ Below w.heap.size w w' := by
  have hsz : (⟨c.toArray⟩ : ByteArray).size = c.length := List.size_toArray
  by_cases h43 : c.length = 43
  · have HU := Lib.hid (unweb_c ⟨c.toArray⟩ w (by rw [hsz, h43]; decide))
    rw [show (⟨c.toArray⟩ : ByteArray).data.toList = c from rfl] at HU
    have i1 : ((c.length : Int) != 43) = false := by rw [bne_eq_false_iff_eq]; omega
    have H43 := Lib.hid h43
    unfold txt
    clear h43 hsz
    go_enter Tryd.func31, Tryd.ntmps31
    go_wp2_with fail
    refine HU.out.mono ?_
    rintro e w1 (⟨out, v, ho, rfl, hown, hb1⟩ | ⟨hno, rfl, hb1⟩)
    · have HT := Lib.hid (mays_web ho H43.out)
      have HB := Lib.hid hb1
      clear hown hb1 ho HU
      go_wp2_with fail
      go_ret
      exact ⟨ret_bool HT.out.symm, HB.out⟩
    · have HT := Lib.hid (mayS_none hno)
      have HB := Lib.hid hb1
      clear hb1 hno HU
      go_wp2_with fail
      go_ret
      exact ⟨ret_bool HT.out.symm, HB.out⟩
  · have HT := Lib.hid (mays_len h43)
    have i1 : ((c.length : Int) != 43) = true := by rw [bne_iff_ne]; omega
    unfold txt
    clear h43 hsz
    go_enter Tryd.func31, Tryd.ntmps31
    go_wp2_with fail
    go_ret
    exact ⟨ret_bool HT.out.symm, Below.refl _ _⟩
end Go.Proofs.YtefdgnlobhdajaaDoor.pkc
