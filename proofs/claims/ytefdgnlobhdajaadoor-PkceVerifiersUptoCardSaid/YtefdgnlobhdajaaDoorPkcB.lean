/- PkceBack by PApi. Texts of any length. -/
import Derived.Test.YtefdgnlobhdajaaDoorPkcL
namespace Go.Proofs.YtefdgnlobhdajaaDoor.pkc
open Go.RowKit
open Go.Proofs.YtefdgnlobhdajaaDoor.oct Go.Proofs.YtefdgnlobhdajaaDoor.ref Go.Proofs.YtefdgnlobhdajaaDoor.rows Go.Proofs.YtefdgnlobhdajaaDoor.sha

theorem pba_append (a b : T) : Value.string (⟨a.toArray⟩ ++ ⟨b.toArray⟩ : ByteArray) = txt (a ++ b) := by
  unfold txt
  rw [ba_append]
set_option maxRecDepth 100000 in
set_option maxHeartbeats 8000000 in
theorem law_back {T' : World → Prop} (X : PApi T') (v m o : T) (w : World) (hv : v.length ≤ 140737488351232) (hm : m.length ≤ 140737488351232) (ho : o.length ≤ 140737488351232) (ht : T' w) :
    Calls Tryd.prog 6 #[txt v, txt m, txt o] w fun e w' => e = .returned (.bool true) ∧ Below w.heap.size w w' := by
  have HT := Lib.hid ht
  have HX := Lib.hid X
  have HK := Lib.hid (fun w ht => pknown_c X w ht)
  have HC := Lib.hid (X.chal v m w ht (by omega) (by omega))
  by_cases h0 : (chalP v m).1 = 0
  · have hcl := chal_len v m
    have HI := Lib.hid (fun w ht => X.isv v w ht (by omega))
    have HM := Lib.hid (fun w ht => X.may (chalP v m).2 m w ht (by omega) (by omega))
    have HC1 := Lib.hid (fun w ht => X.check (chalP v m).2 m v w ht (by omega) (by omega) (by omega))
    have HC2 := Lib.hid (fun w ht => X.check ((chalP v m).2 ++ [65]) m v w ht (by rw [List.length_append, List.length_singleton]; omega) (by omega) (by omega))
    have HC3 := Lib.hid (fun w ht => X.check (chalP v m).2 m o w ht (by omega) (by omega) (by omega))
    obtain ⟨hv1, hw⟩ := chal_ok h0
    rw [may_told h0] at HM
    rw [check_told h0] at HC1
    rw [check_more] at HC2
    rw [hv1] at HI
    rcases hw with ⟨h1, h2⟩ | ⟨h1, h2⟩
    · subst h1
      rw [h2] at HC HM HC1 HC2 HC3
      dsimp only at HC HM HC1 HC2 HC3
      rw [check_plain hv1] at HC3
      rw [← pba_append] at HC2
      clear h0 h2 hcl ht X hv1
      unfold txt plainM at *
      go_enter Tryd.func6, Tryd.ntmps6
      go_wp2_with fail
      refine HC.out.mono ?_
      rintro e w1 ⟨rfl, hb1⟩
      have HW := Lib.hid hb1
      clear hb1
      go_wp2_with fail
      refine (HK.out w1 (HX.out.tbelow _ _ HT.out HW.out)).mono ?_
      rintro e w2 ⟨rfl, hb2⟩
      have HW := Lib.hid (bnext HW.out hb2)
      clear hb2
      go_wp2_with fail
      refine (HI.out w2 (HX.out.tbelow _ _ HT.out HW.out)).mono ?_
      rintro e w3 ⟨rfl, hb3⟩
      have HW := Lib.hid (bnext HW.out hb3)
      clear hb3
      go_wp2_with fail
      refine (HM.out w3 (HX.out.tbelow _ _ HT.out HW.out)).mono ?_
      rintro e w4 ⟨rfl, hb4⟩
      have HW := Lib.hid (bnext HW.out hb4)
      clear hb4
      go_wp2_with fail
      refine (HC1.out w4 (HX.out.tbelow _ _ HT.out HW.out)).mono ?_
      rintro e w5 ⟨rfl, hb5⟩
      have HW := Lib.hid (bnext HW.out hb5)
      clear hb5
      go_wp2_with fail
      refine (HC2.out w5 (HX.out.tbelow _ _ HT.out HW.out)).mono ?_
      rintro e w6 ⟨rfl, hb6⟩
      have HW := Lib.hid (bnext HW.out hb6)
      clear hb6
      go_wp2_with fail
      cases hov : (o == v) <;> rw [hov] at HC3
      · have e9 : (false == false) = true := rfl
        refine (HC3.out w6 (HX.out.tbelow _ _ HT.out HW.out)).mono ?_
        rintro e w7 ⟨rfl, hb7⟩
        have HW := Lib.hid (bnext HW.out hb7)
        clear hb7
        go_wp2_with fail
        go_ret
        exact ⟨rfl, HW.out⟩
      · have e9 : (true == true) = true := rfl
        refine (HC3.out w6 (HX.out.tbelow _ _ HT.out HW.out)).mono ?_
        rintro e w7 ⟨rfl, hb7⟩
        have HW := Lib.hid (bnext HW.out hb7)
        clear hb7
        go_wp2_with fail
        go_ret
        exact ⟨rfl, HW.out⟩
    · subst h1
      have hl43 := hash_len v
      rw [h2] at HC HM HC1 HC2
      dsimp only at HC HM HC1 HC2
      obtain ⟨Y, hY⟩ : ∃ Y, hashT v = Y := ⟨_, rfl⟩
      rw [hY] at HC HM HC1 HC2 hl43
      rw [← pba_append] at HC2
      have hyl : Y.length ≤ 43 := by omega
      have hb43 : ((Y.length : Int) != 43) = false := by rw [bne_eq_false_iff_eq]; omega
      clear h0 h2 hcl ht X hv1 HC3 hY hl43
      unfold txt hashM at *
      go_enter Tryd.func6, Tryd.ntmps6
      go_wp2_with fail
      refine HC.out.mono ?_
      rintro e w1 ⟨rfl, hb1⟩
      have HW := Lib.hid hb1
      clear hb1
      go_wp2_with fail
      refine (HK.out w1 (HX.out.tbelow _ _ HT.out HW.out)).mono ?_
      rintro e w2 ⟨rfl, hb2⟩
      have HW := Lib.hid (bnext HW.out hb2)
      clear hb2
      go_wp2_with fail
      refine (HI.out w2 (HX.out.tbelow _ _ HT.out HW.out)).mono ?_
      rintro e w3 ⟨rfl, hb3⟩
      have HW := Lib.hid (bnext HW.out hb3)
      clear hb3
      go_wp2_with fail
      refine (HM.out w3 (HX.out.tbelow _ _ HT.out HW.out)).mono ?_
      rintro e w4 ⟨rfl, hb4⟩
      have HW := Lib.hid (bnext HW.out hb4)
      clear hb4
      go_wp2_with fail
      refine (HC1.out w4 (HX.out.tbelow _ _ HT.out HW.out)).mono ?_
      rintro e w5 ⟨rfl, hb5⟩
      have HW := Lib.hid (bnext HW.out hb5)
      clear hb5
      go_wp2_with fail
      refine (HC2.out w5 (HX.out.tbelow _ _ HT.out HW.out)).mono ?_
      rintro e w6 ⟨rfl, hb6⟩
      have HW := Lib.hid (bnext HW.out hb6)
      clear hb6
      go_wp2_with fail
      go_ret
      exact ⟨rfl, HW.out⟩
  · obtain ⟨h1, h2⟩ := chal_no h0
    have HC1 := Lib.hid (fun w ht => X.check v m v w ht (by omega) (by omega) (by omega))
    rw [h2] at HC1
    rw [h1] at HC
    obtain ⟨q, hq⟩ : ∃ q, (chalP v m).1 = q := ⟨_, rfl⟩
    rw [hq] at HC h0
    have hb0 : ((q : Int) != 0) = true := by rw [bne_iff_ne]; omega
    clear h0 h1 h2 ht X hq
    unfold txt at *
    go_enter Tryd.func6, Tryd.ntmps6
    go_wp2_with fail
    refine HC.out.mono ?_
    rintro e w1 ⟨rfl, hb1⟩
    have HW := Lib.hid hb1
    clear hb1
    go_wp2_with fail
    refine (HK.out w1 (HX.out.tbelow _ _ HT.out HW.out)).mono ?_
    rintro e w2 ⟨rfl, hb2⟩
    have HW := Lib.hid (bnext HW.out hb2)
    clear hb2
    go_wp2_with fail
    refine (HK.out w2 (HX.out.tbelow _ _ HT.out HW.out)).mono ?_
    rintro e w3 ⟨rfl, hb3⟩
    have HW := Lib.hid (bnext HW.out hb3)
    clear hb3
    go_wp2_with fail
    refine (HC1.out w3 (HX.out.tbelow _ _ HT.out HW.out)).mono ?_
    rintro e w4 ⟨rfl, hb4⟩
    have HW := Lib.hid (bnext HW.out hb4)
    clear hb4
    go_wp2_with fail
    go_ret
    exact ⟨rfl, HW.out⟩
end Go.Proofs.YtefdgnlobhdajaaDoor.pkc
