/- FieldJoins by FApi. -/
import Derived.Test.YtfgenbmobfbifaaFldB
import Derived.Test.YtfgenbmobfbifaaFldR
namespace Go.Proofs.Ytfgenbmobfbifaa.fld
open Go.RowKit
open Go.Proofs.Ytfgenbmobfbifaa.oct Go.Proofs.Ytfgenbmobfbifaa.ref Go.Proofs.Ytfgenbmobfbifaa.rows
open Go.Lib (byteCells)

theorem ba_join (a b : List UInt8) : ((⟨a.toArray⟩ : ByteArray) ++ ⟨#[38]⟩ ++ ⟨b.toArray⟩) = ⟨(a ++ 38 :: b).toArray⟩ := by ext1; simp
set_option maxRecDepth 40000 in
set_option maxHeartbeats 2000000 in
theorem law_joins_long {T : World → Prop} (X : FApi T) (a b n : List UInt8) (w : World) (ha : a.length ≤ 140737488351232) (hb : b.length ≤ 140737488351232) (hs : 16384 ≤ a.length + b.length) (ht : T w) :
    Calls Try.prog 10 #[.string ⟨a.toArray⟩, .string ⟨b.toArray⟩, .string ⟨n.toArray⟩] w fun e w' => e = .returned (.bool true) ∧ Below w.heap.size w w' := by
  have HT := Lib.hid ht
  have HX := Lib.hid X
  have hA : (⟨a.toArray⟩ : ByteArray).size = a.length := by simp [size_mk]
  have hB : (⟨b.toArray⟩ : ByteArray).size = b.length := by simp [size_mk]
  obtain ⟨A, hAe⟩ : ∃ A : ByteArray, ⟨a.toArray⟩ = A := ⟨_, rfl⟩
  obtain ⟨B, hBe⟩ : ∃ B : ByteArray, ⟨b.toArray⟩ = B := ⟨_, rfl⟩
  obtain ⟨N, hNe⟩ : ∃ N : ByteArray, ⟨n.toArray⟩ = N := ⟨_, rfl⟩
  rw [hAe] at hA ⊢
  rw [hBe] at hB ⊢
  rw [hNe]
  obtain ⟨k, hk⟩ : ∃ k : Int, k = (A.size : Int) + (B.size : Int) := ⟨_, rfl⟩
  have hge : 16384 ≤ k := by omega
  have hw : IntKind.i64.wrap ((A.size : Int) + (B.size : Int)) = k := by rw [IntKind.wrap_i64]; omega
  clear ht X hAe hBe hNe hk hA hB hs ha hb
  go_enter Try.func10, Try.ntmps10
  go_wp2_with fail
  refine (fknown_c HX.out w HT.out).mono ?_
  rintro e w1 ⟨rfl, hb1⟩
  have HB := Lib.hid hb1
  clear hb1
  go_wp2_with fail
  go_ret
  exact ⟨rfl, HB.out⟩

set_option maxRecDepth 40000 in
set_option maxHeartbeats 2000000 in
theorem law_joins_short {T : World → Prop} (X : FApi T) (a b n : List UInt8) (w : World) (hs : a.length + b.length < 16384) (ht : T w) :
    Calls Try.prog 10 #[.string ⟨a.toArray⟩, .string ⟨b.toArray⟩, .string ⟨n.toArray⟩] w fun e w' => e = .returned (.bool true) ∧ Below w.heap.size w w' := by
  have HT := Lib.hid ht
  have HX := Lib.hid X
  have hA : (⟨a.toArray⟩ : ByteArray).size = a.length := by simp [size_mk]
  have hB : (⟨b.toArray⟩ : ByteArray).size = b.length := by simp [size_mk]
  have HJ := Lib.hid (ba_join a b)
  have HPa : Hid (∀ w, T w → Calls Try.prog 19 #[.string ⟨a.toArray⟩] w fun e w' => ParseV w w' (parse a) e) := fun w ht => HX.out.parse a w ht (by omega)
  have HPb : Hid (∀ w, T w → Calls Try.prog 19 #[.string ⟨b.toArray⟩] w fun e w' => ParseV w w' (parse b) e) := fun w ht => HX.out.parse b w ht (by omega)
  have HPj : Hid (∀ w, T w → Calls Try.prog 19 #[.string ((⟨a.toArray⟩ : ByteArray) ++ ⟨#[38]⟩ ++ ⟨b.toArray⟩)] w fun e w' => ParseV w w' (parse (a ++ 38 :: b)) e) := fun w ht => by
    rw [HJ.out]
    exact HX.out.parse (a ++ 38 :: b) w ht (by rw [List.length_append, List.length_cons]; omega)
  have hj := parse_join a b hs
  have HFa := Lib.hid (parse_few a)
  have HFb := Lib.hid (parse_few b)
  have HFj := Lib.hid (parse_few (a ++ 38 :: b))
  have HVa := Lib.hid (vals_small (parse_small a))
  have HVb := Lib.hid (vals_small (parse_small b))
  obtain ⟨A, hAe⟩ : ∃ A : ByteArray, ⟨a.toArray⟩ = A := ⟨_, rfl⟩
  obtain ⟨B, hBe⟩ : ∃ B : ByteArray, ⟨b.toArray⟩ = B := ⟨_, rfl⟩
  rw [hAe] at hA HPa HPj ⊢
  rw [hBe] at hB HPb HPj ⊢
  obtain ⟨⟨ea, l⟩, hea⟩ : ∃ r, parse a = r := ⟨_, rfl⟩
  obtain ⟨⟨eb, m⟩, heb⟩ : ∃ r, parse b = r := ⟨_, rfl⟩
  obtain ⟨⟨ej, q⟩, hej⟩ : ∃ r, parse (a ++ 38 :: b) = r := ⟨_, rfl⟩
  rw [hea] at HPa HFa HVa hj
  rw [heb] at HPb HFb HVb hj
  rw [hej] at HPj HFj hj
  dsimp only at hj HFa HFb HFj HVa HVb
  clear HJ ht X hAe hBe hea heb hej
  obtain ⟨N, hNe⟩ : ∃ N : ByteArray, ⟨n.toArray⟩ = N := ⟨_, rfl⟩
  have HNe := Lib.hid hNe
  rw [hNe]
  obtain ⟨k, hk⟩ : ∃ k : Int, k = (A.size : Int) + (B.size : Int) := ⟨_, rfl⟩
  have hge : k < 16384 := by omega
  have hw : IntKind.i64.wrap ((A.size : Int) + (B.size : Int)) = k := by rw [IntKind.wrap_i64]; omega
  have hs1 : ¬ 9223372036854775807 < A.size + 1 := by omega
  have hs2 : ¬ 9223372036854775807 < A.size + 1 + B.size := by omega
  clear hNe hk hA hB hs
  have HJ := Lib.hid hj
  clear hj
  go_enter Try.func10, Try.ntmps10
  go_wp2_with fail
  refine (HPa.out w HT.out).mono ?_
  rintro e w1 ⟨v, rfl, hown, hb1⟩
  obtain ⟨P, C, rfl, hC, hN, hin⟩ := own_pairs hown
  have HP1 := Lib.hid hin
  have HO1 := Lib.hid hown
  have HB1 := Lib.hid hb1
  have HC1 := Lib.hid hC
  have HN1 := Lib.hid hN
  clear hown hC hN hin hb1
  go_wp2_with fail
  refine (HPb.out w1 (HX.out.tbelow _ _ HT.out HB1.out)).mono ?_
  rintro e w2 ⟨v, rfl, hown, hb2⟩
  obtain ⟨Q, D, rfl, hD, hN, hin⟩ := own_pairs hown
  have HP2 := Lib.hid (HP1.out.below hb2)
  have HQ2 := Lib.hid hin
  have HB2 := Lib.hid (bnext HB1.out hb2)
  have HD2 := Lib.hid hD
  have HN2 := Lib.hid hN
  clear hown hD hN hin hb2 HP1
  go_wp2_with fail
  refine (HPj.out w2 (HX.out.tbelow _ _ HT.out HB2.out)).mono ?_
  rintro e w3 ⟨v, rfl, hown, hb3⟩
  obtain ⟨R, E, rfl, hE, hN, hin⟩ := own_pairs hown
  have HP3 := Lib.hid (HP2.out.below hb3)
  have HQ3 := Lib.hid (HQ2.out.below hb3)
  have HR3 := Lib.hid hin
  have HB3 := Lib.hid (bnext HB2.out hb3)
  have HE3 := Lib.hid hE
  have HN3 := Lib.hid hN
  clear hown hE hN hin hb3 HP2 HQ2
  go_wp2_with fail
  refine (fknown_c HX.out w3 (HX.out.tbelow _ _ HT.out HB3.out)).mono ?_
  rintro e w4 ⟨rfl, hb4⟩
  have HP4 := Lib.hid (HP3.out.below hb4)
  have HQ4 := Lib.hid (HQ3.out.below hb4)
  have HR4 := Lib.hid (HR3.out.below hb4)
  have HB4 := Lib.hid (bnext HB3.out hb4)
  clear hb4 HP3 HQ3 HR3
  obtain ⟨z, hz⟩ : ∃ z : Int, z = (l.length : Int) + (m.length : Int) := ⟨_, rfl⟩
  have hzw : IntKind.i64.wrap ((l.length : Int) + (m.length : Int)) = z := by have := HFa.out; have := HFb.out; rw [IntKind.wrap_i64]; omega
  have HZ := Lib.hid hz
  clear hz
  by_cases hg : ea = 0 ∧ eb = 0 ∧ l.length + m.length ≤ 64
  · have he := HJ.out.1 hg
    have hzl : ¬ 64 < z := by have := HZ.out; have := hg.2.2; omega
    have HG := Lib.hid hg.2.2
    obtain ⟨rfl, rfl, _⟩ := hg
    cases he
    clear HPa HPb HPj HJ
    go_wp2_with fail
    have HG1 : Hid (Calls Try.prog 22 #[.slice P l.length C, .string N] w4 fun e w' => e = .returned (.tuple #[tx (getV l n), .int .i64 (getN l n : Nat)]) ∧ Below w4.heap.size w4 w') := by
      have h := HX.out.get P C l n w4 (HX.out.tbelow _ _ HT.out HB4.out) HP4.out (by have := HFa.out; omega) HC1.out HN1.out HVa.out
      unfold tx at h
      rw [HNe.out] at h
      exact h
    refine HG1.out.mono ?_
    rintro e w5 ⟨rfl, hb5⟩
    have HP5 := Lib.hid (HP4.out.below hb5)
    have HQ5 := Lib.hid (HQ4.out.below hb5)
    have HR5 := Lib.hid (HR4.out.below hb5)
    have HB5 := Lib.hid (bnext HB4.out hb5)
    clear hb5 HP4 HQ4 HR4 HG1
    unfold tx
    go_wp2_with fail
    have HG1 : Hid (Calls Try.prog 22 #[.slice Q m.length D, .string N] w5 fun e w' => e = .returned (.tuple #[tx (getV m n), .int .i64 (getN m n : Nat)]) ∧ Below w5.heap.size w5 w') := by
      have h := HX.out.get Q D m n w5 (HX.out.tbelow _ _ HT.out HB5.out) HQ5.out (by have := HFb.out; omega) HD2.out HN2.out HVb.out
      unfold tx at h
      rw [HNe.out] at h
      exact h
    refine HG1.out.mono ?_
    rintro e w6 ⟨rfl, hb6⟩
    have HP6 := Lib.hid (HP5.out.below hb6)
    have HQ6 := Lib.hid (HQ5.out.below hb6)
    have HR6 := Lib.hid (HR5.out.below hb6)
    have HB6 := Lib.hid (bnext HB5.out hb6)
    clear hb6 HP5 HQ5 HR5 HG1
    unfold tx
    go_wp2_with fail
    have HG1 : Hid (Calls Try.prog 22 #[.slice R (l.length + m.length) E, .string N] w6 fun e w' => e = .returned (.tuple #[tx (getV (l ++ m) n), .int .i64 (getN (l ++ m) n : Nat)]) ∧ Below w6.heap.size w6 w') := by
      have h := HX.out.get R E (l ++ m) n w6 (HX.out.tbelow _ _ HT.out HB6.out) HR6.out (by have := HFj.out; omega) HE3.out HN3.out (fun x hx => (List.mem_append.1 hx).elim (HVa.out x) (HVb.out x))
      unfold tx at h
      rw [HNe.out, List.length_append] at h
      exact h
    refine HG1.out.mono ?_
    rintro e w7 ⟨rfl, hb7⟩
    have HP7 := Lib.hid (HP6.out.below hb7)
    have HQ7 := Lib.hid (HQ6.out.below hb7)
    have HR7 := Lib.hid (HR6.out.below hb7)
    have HB7 := Lib.hid (bnext HB6.out hb7)
    clear hb7 HP6 HQ6 HR6 HG1
    unfold tx
    have hgn : IntKind.i64.wrap ((getN l n : Int) + (getN m n : Int)) = ((getN (l ++ m) n : Nat) : Int) := by
      have := getN_le l n; have := getN_le m n; have := HFa.out; have := HFb.out
      rw [getN_append, IntKind.wrap_i64]; omega
    have HN0 := Lib.hid (own_nilP w7)
    go_wp2_with (first
      | (at_builtin; refine wpList_met rfl ?_; refine wpList_append_pr rfl (.tmp 89) (.tmp 90) rfl w7.heap.size _ 0 (pcells []) rfl HN0.out P l.length C l rfl (HP7.out.below ((Below.refl _ _).alloc (Nat.le_refl _) _)) rfl HN1.out (by have := HFa.out; omega) (by simp) ?_; intro v8 w8 hown8 hgrow8; have hb8 := ((Below.refl w7.heap.size w7).alloc (Nat.le_refl _) _).grown hgrow8 (by simp) (fun k hk => (HN0.out.lt k hk).1); have HO8 := Lib.hid hown8; have HB8 := Lib.hid hb8; clear hown8 hgrow8 hb8)
      | (at_builtin; refine wpList_met rfl ?_; refine wpList_append_pr rfl (.tmp 91) (.tmp 92) rfl w7.heap.size _ (0 + l.length) (pcells [] ++ pcells l) rfl HO8.out Q m.length D m rfl (HQ7.out.below HB8.out) rfl HN2.out (by have := HFa.out; have := HFb.out; omega) HB8.out.size ?_; intro v9 w9 hown9 hgrow9; have hb9 := HB8.out.grown hgrow9 HB8.out.size (fun k hk => (HO8.out.lt k hk).1); obtain ⟨S, F, rfl, _, _, hin9⟩ := own_ps (ps := l ++ m) hown9 (by rw [List.length_append]; omega) (by rw [pcells_append]; rfl); have HSM := Lib.hid (rsame_eq R E S F (l ++ m) w9 (HR7.out.below hb9) hin9 (by have := HFj.out; omega)); have HB9 := Lib.hid (bnext HB7.out hb9); rw [List.length_append] at HSM; clear hown9 hgrow9 hb9 hin9 HO8 HB8; rw [List.length_append]))
    refine HSM.out.mono ?_
    rintro e w10 ⟨rfl, nd, rfl⟩
    by_cases hx : getN l n = 0
    · have hg0 : wrap64 ((getN m n : Nat) : Int) = ((getN (l ++ m) n : Nat) : Int) := by
        have h := hgn
        rw [hx] at h
        rw [← IntWalk.i64_left]
        simpa using h
      clear hgn
      go_wp2_with fail
      go_ret
      exact ⟨rfl, below_drewN HB9.out nd⟩
    · have hxb : (((getN l n : Nat) : Int) == 0) = false := by rw [beq_eq_false_iff_ne]; omega
      rw [getV_append l m n hx]
      go_wp2_with fail
      go_ret
      exact ⟨rfl, below_drewN HB9.out nd⟩
  · have hj : ((ej : Nat) : Int) ≠ 0 := by have := HJ.out.2 hg; omega
    have hjb : (((ej : Nat) : Int) != 0) = true := by rw [bne_iff_ne]; exact hj
    by_cases h1 : ea = 0
    · by_cases h2 : eb = 0
      · have hzl : 64 < z := by have := HZ.out; omega
        subst h1
        subst h2
        clear hg hj HPa HPb HPj HJ
        go_wp2_with fail
        refine (fknown_c HX.out w4 (HX.out.tbelow _ _ HT.out HB4.out)).mono ?_
        rintro e w5 ⟨rfl, hb5⟩
        have HB5 := Lib.hid (bnext HB4.out hb5)
        clear hb5
        go_wp2_with fail
        go_ret
        exact ⟨rfl, HB5.out⟩
      · have hn : (((eb : Nat) : Int) != 0) = true := by rw [bne_iff_ne]; omega
        subst h1
        clear hg hj h2 HPa HPb HPj HJ
        go_wp2_with fail
        refine (fknown_c HX.out w4 (HX.out.tbelow _ _ HT.out HB4.out)).mono ?_
        rintro e w5 ⟨rfl, hb5⟩
        have HB5 := Lib.hid (bnext HB4.out hb5)
        clear hb5
        go_wp2_with fail
        go_ret
        exact ⟨rfl, HB5.out⟩
    · have hn : (((ea : Nat) : Int) != 0) = true := by rw [bne_iff_ne]; omega
      clear hg hj h1 HPa HPb HPj HJ
      go_wp2_with fail
      refine (fknown_c HX.out w4 (HX.out.tbelow _ _ HT.out HB4.out)).mono ?_
      rintro e w5 ⟨rfl, hb5⟩
      have HB5 := Lib.hid (bnext HB4.out hb5)
      clear hb5
      go_wp2_with fail
      go_ret
      exact ⟨rfl, HB5.out⟩
theorem law_joins {T : World → Prop} (X : FApi T) (a b n : List UInt8) (w : World) (ha : a.length ≤ 140737488351232) (hb : b.length ≤ 140737488351232) (ht : T w) :
    Calls Try.prog 10 #[.string ⟨a.toArray⟩, .string ⟨b.toArray⟩, .string ⟨n.toArray⟩] w fun e w' => e = .returned (.bool true) ∧ Below w.heap.size w w' := by
  by_cases hs : a.length + b.length < 16384
  · exact law_joins_short X a b n w hs ht
  · exact law_joins_long X a b n w ha hb (by omega) ht
end Go.Proofs.Ytfgenbmobfbifaa.fld
