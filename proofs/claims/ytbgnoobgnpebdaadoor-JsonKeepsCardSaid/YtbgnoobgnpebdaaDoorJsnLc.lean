/- JsonUnlike by JApi. -/
import Derived.Test.YtbgnoobgnpebdaaDoorJsnLb
namespace Go.Proofs.YtbgnoobgnpebdaaDoor.jsn
open Go.RowKit
open Go.Proofs.YtbgnoobgnpebdaaDoor.oct Go.Proofs.YtbgnoobgnpebdaaDoor.ref Go.Proofs.YtbgnoobgnpebdaaDoor.rows Go.Proofs.YtbgnoobgnpebdaaDoor.rowg
open Go.Lib (byteCells)

set_option maxRecDepth 8000 in
set_option maxHeartbeats 4000000 in
theorem law_unlike {T : World → Prop} (X : JApi T) (s t : List UInt8) (w : World) (hs : s.length ≤ 140737488351232) (htl : t.length ≤ 140737488351232) (ht : T w) :
    Calls Tryd.prog 7 #[.string ⟨s.toArray⟩, .string ⟨t.toArray⟩] w fun e w' => e = .returned (.bool true) ∧ Below w.heap.size w w' := by
  have HT := Lib.hid ht
  have HX := Lib.hid X
  have HK := Lib.hid (X.parse s w ht hs)
  have HK2 : Hid (∀ w, T w → Calls Tryd.prog 13 #[.string ⟨t.toArray⟩] w fun e w' => ParseV w w' (parseJ t) e) := fun w h => X.parse t w h htl
  have HW := Lib.hid (parse_few s)
  have HV := Lib.hid (parse_few t)
  have HQ : Hid ((parseJ s).1 = 0 → (parseJ t).1 = 0 → (decide ((parseJ s).2 = (parseJ t).2) = decide (s = t))) := fun h1 h2 => by
    have a := parse_ok h1
    have b := parse_ok h2
    by_cases h : s = t
    · subst h; simp
    · have h3 : ¬ (parseJ s).2 = (parseJ t).2 := fun h4 => by
        rw [h4, b] at a
        cases a
        exact h rfl
      simp [h, h3]
  have hst : ((⟨s.toArray⟩ : ByteArray).toList == (⟨t.toArray⟩ : ByteArray).toList) = decide (s = t) := by
    rw [ByteArray.toList_eq, ByteArray.toList_eq]
    by_cases h : s = t <;> simp [h]
  obtain ⟨⟨k, ms⟩, hr⟩ : ∃ r, parseJ s = r := ⟨_, rfl⟩
  obtain ⟨⟨j, qs⟩, hq⟩ : ∃ r, parseJ t = r := ⟨_, rfl⟩
  rw [hr] at HK HW HQ
  rw [hq] at HK2 HV HQ
  dsimp only at HW HV HQ
  obtain ⟨D, hD⟩ : ∃ D, decide (s = t) = D := ⟨_, rfl⟩
  rw [hD] at HQ hst
  obtain ⟨S, hS⟩ : ∃ S : ByteArray, ⟨s.toArray⟩ = S := ⟨_, rfl⟩
  obtain ⟨U, hU⟩ : ∃ U : ByteArray, ⟨t.toArray⟩ = U := ⟨_, rfl⟩
  rw [hS] at HK hst ⊢
  rw [hU] at HK2 hst ⊢
  clear hr hq ht X hs htl hD hS hU
  go_enter Tryd.func7, Tryd.ntmps7
  go_wp2_with fail
  refine HK.out.mono ?_
  rintro e w1 ⟨v, rfl, hown, hb1⟩
  obtain ⟨p, c, rfl, _, _, hin⟩ := own_ms hown
  have HB1 := Lib.hid hb1
  have HP1 := Lib.hid hin
  clear hown hin hb1 HK
  dsimp only
  go_wp2_with fail
  refine (HK2.out w1 (HX.out.tbelow _ _ HT.out HB1.out)).mono ?_
  rintro e w2 ⟨v, rfl, hown, hb2⟩
  obtain ⟨q, d, rfl, _, _, hin⟩ := own_ms hown
  have HB2 := Lib.hid (bnext HB1.out hb2)
  have HP2 := Lib.hid (inm_below HP1.out hb2)
  have HQ2 := Lib.hid hin
  clear hown hin hb2 HK2 HP1 HB1
  dsimp only
  go_wp2_with fail
  refine (jknown_c HX.out w2 (HX.out.tbelow _ _ HT.out HB2.out)).mono ?_
  rintro e w3 ⟨rfl, hb3⟩
  have HB3 := Lib.hid (bnext HB2.out hb3)
  have HP3 := Lib.hid (inm_below HP2.out hb3)
  have HQ3 := Lib.hid (inm_below HQ2.out hb3)
  clear hb3 HP2 HQ2 HB2
  by_cases hk : k = 0
  · by_cases hj : j = 0
    · subst hk hj
      have hdd := HQ.out rfl rfl
      have HS := Lib.hid (rsame_c p c ms q d qs w3 HP3.out HQ3.out (by have := HW.out; omega) (by have := HV.out; omega))
      rw [hdd] at HS
      clear hdd
      go_wp2_with fail
      refine HS.out.mono ?_
      rintro e w4 ⟨rfl, nd, rfl⟩
      cases D
      · go_wp2_with fail
        go_ret
        exact ⟨rfl, below_drewN HB3.out nd⟩
      · go_wp2_with fail
        go_ret
        exact ⟨rfl, below_drewN HB3.out nd⟩
    · have hjb : (((j : Nat) : Int) != 0) = true := by rw [bne_iff_ne]; omega
      subst hk
      clear hj
      go_wp2_with fail
      go_ret
      exact ⟨rfl, HB3.out⟩
  · have hkb : (((k : Nat) : Int) != 0) = true := by rw [bne_iff_ne]; omega
    clear hk
    go_wp2_with fail
    go_ret
    exact ⟨rfl, HB3.out⟩
end Go.Proofs.YtbgnoobgnpebdaaDoor.jsn
