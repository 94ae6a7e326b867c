/- OctetJoins: the walk of the law (rows up to 1048576 bytes in all). -/
import Derived.Test.YtddihhpahghajaaDoorRef6
import Derived.WalkSmall
namespace Go.Proofs.YtddihhpahghajaaDoor.lawD
open Go.RowKit
open Go.Proofs.YtddihhpahghajaaDoor.pl Go.Proofs.YtddihhpahghajaaDoor.oct Go.Proofs.YtddihhpahghajaaDoor.ref
open Go.Lib (byteCells)

theorem enc_append {w : Nat} (hw : 0 < w) (l m : List UInt8) (h : 8 * l.length % w = 0) : enc w (l ++ m) = enc w l ++ enc w m := by
  obtain ⟨hd, p, hp, hf⟩ := enc_tells hw l
  obtain ⟨he, q, hq, hg⟩ := enc_tells hw m
  have hl := congrArg List.length hf
  rw [flat_len, List.length_append, bitsOf_len, List.length_replicate] at hl
  have hp0 : p = 0 := by
    have h1 : (w * (enc w l).length) % w = 0 := Nat.mul_mod_right _ _
    rw [hl] at h1
    have h2 := Nat.sub_mod_eq_zero_of_mod_eq (h1.trans h.symm)
    rw [Nat.add_sub_cancel_left, Nat.mod_eq_of_lt hp] at h2
    exact h2
  subst hp0
  refine (Tells.eq_enc hw ⟨?_, q, hq, ?_⟩).symm
  · intro d hx
    rcases List.mem_append.1 hx with hx | hx
    · exact hd d hx
    · exact he d hx
  · rw [flat_append, hf, hg, bitsOf_append]; simp
theorem hexT_append (l m : List UInt8) : hexT (l ++ m) = hexT l ++ hexT m := by
  unfold hexT text; rw [enc_append (by decide) l m (by omega), List.map_append]
theorem webT_append (l m : List UInt8) (h : l.length % 3 = 0) : webT (l ++ m) = webT l ++ webT m := by
  unfold webT text; rw [enc_append (by decide) l m (by omega), List.map_append]
theorem basB_append (l m : List UInt8) (h : l.length % 3 = 0) : basB (l ++ m) = basB l ++ basB m := by
  unfold basB text; rw [enc_append (by decide) l m (by omega), List.map_append]
theorem basT_append (l m : List UInt8) (h : l.length % 3 = 0) : basT (l ++ m) = basT l ++ basT m := by
  have h1 : lack (basB l).length = 0 := by rw [basB_len, lack]; omega
  have h2 : lack (basB l ++ basB m).length = lack (basB m).length := by rw [List.length_append, basB_len l, lack, lack]; omega
  unfold basT
  rw [basB_append l m h, h1, h2]; simp

/-- the tail of the law, from the appended row on: both texts of it and of its parts -/
def Facts (p q pA : Option Addr) (l m A : List UInt8) (w : World) : Prop := In8 w p l ∧ In8 w q m ∧ In8 w pA A
theorem Facts.below {p q pA : Option Addr} {l m A : List UInt8} {w w' : World} (h : Facts p q pA l m A w) (hb : Below w.heap.size w w') : Facts p q pA l m A w' :=
  ⟨h.1.below hb, h.2.1.below hb, h.2.2.below hb⟩

/-- the append of b behind a's copy -/
theorem own_in8' {w : World} {B e n : Nat} {v : Value} {l : List UInt8} (h : w.ownsRow B e 1 v n (byteCells l)) : ∃ p cp, v = .slice p l.length cp ∧ In8 w p l := by
  obtain ⟨h1, h2⟩ := own_in8 h
  subst h1
  exact h2

theorem src_cells {w : World} {ad : Addr} {m : List UInt8} (h : In8 w (some ad) m) : ∀ j v, (byteCells m)[j]? = some v → w.cell? (ad.add j) = some v := by
  intro j v hj
  have hjl : j < m.length := by
    rcases Nat.lt_or_ge j m.length with h1 | h1
    · exact h1
    · rw [List.getElem?_eq_none (by rw [byteCells_len]; exact h1)] at hj; cases hj
  obtain ⟨ad2, h1, h2⟩ := in8_src h (by omega)
  cases h1
  exact h2 j v hj

theorem ba_list (a b : List UInt8) : ((⟨a.toArray⟩ : ByteArray) ++ (⟨b.toArray⟩ : ByteArray)).toList = a ++ b := by
  rw [Lib.toList_data, ba_append]

set_option maxHeartbeats 4000000 in
theorem joins (p : Option Addr) (cp : Nat) (l : List UInt8) (q : Option Addr) (cq : Nat) (m : List UInt8) (w : World) (hp : In8 w p l) (hl : l.length ≤ 1048576) (hq : In8 w q m) (hm : m.length ≤ 1048576) (hnil : q = none → cq = 0) :
    Calls Tryd.prog 12 #[.slice p l.length cp, .slice q m.length cq] w fun e w' => e = .returned (.bool true) ∧ Below w.heap.size w w' := by
  obtain ⟨j0, hj, hy0, hy1, hy2⟩ := info_parts infoByte
  have HP := Lib.hid hp
  have HQ := Lib.hid hq
  have HM : Hid (q = none → m = [] ∧ cq = 0) := by
    intro h
    refine ⟨?_, hnil h⟩
    rcases m with _ | ⟨a, m⟩
    · rfl
    · obtain ⟨b, o, h1, _⟩ := hq (by simp)
      rw [h] at h1
      cases h1
  clear hp hq hnil
  obtain ⟨A, hA⟩ : ∃ A, l ++ m = A := ⟨_, rfl⟩
  have hAl : A.length ≤ 2097152 := by rw [← hA, List.length_append]; omega
  obtain ⟨ha, ea⟩ : ∃ x, hexT l = x := ⟨_, rfl⟩
  obtain ⟨hb, eb⟩ : ∃ x, hexT m = x := ⟨_, rfl⟩
  have HX : Hid (hexT l = ha ∧ hexT m = hb ∧ hexT A = ha ++ hb) := ⟨ea, eb, by rw [← ea, ← eb, ← hA, hexT_append]⟩
  have lb1 : ha.length ≤ 5000000 := by rw [← ea, hexT_len]; omega
  have lb2 : hb.length ≤ 5000000 := by rw [← eb, hexT_len]; omega
  obtain ⟨wa, fa⟩ : ∃ x, webT l = x := ⟨_, rfl⟩
  obtain ⟨wb, fb⟩ : ∃ x, webT m = x := ⟨_, rfl⟩
  have HW : Hid (webT l = wa ∧ webT m = wb ∧ (l.length % 3 = 0 → webT A = wa ++ wb)) := ⟨fa, fb, fun h => by rw [← fa, ← fb, ← hA, webT_append _ _ h]⟩
  have lb3 : wa.length ≤ 5000000 := by rw [← fa, webT_len]; omega
  have lb4 : wb.length ≤ 5000000 := by rw [← fb, webT_len]; omega
  obtain ⟨ba, ga⟩ : ∃ x, basT l = x := ⟨_, rfl⟩
  obtain ⟨bb, gb⟩ : ∃ x, basT m = x := ⟨_, rfl⟩
  have HS : Hid (basT l = ba ∧ basT m = bb ∧ (l.length % 3 = 0 → basT A = ba ++ bb)) := ⟨ga, gb, fun h => by rw [← ga, ← gb, ← hA, basT_append _ _ h]⟩
  have lb5 : ba.length ≤ 5000000 := by rw [← ga, basT_len]; omega
  have lb6 : bb.length ≤ 5000000 := by rw [← gb, basT_len]; omega
  have HBA : Hid (byteCells l ++ byteCells m = byteCells A) := by show _ = _; rw [← byteCells_append, hA]
  have HA : Hid (l ++ m = A) := hA
  clear hA ea eb fa fb ga gb
  rcases q with _ | ad
  · obtain ⟨rfl, rfl⟩ := HM.out rfl
    have HLA : Hid (l = A) := by show _ = _; rw [← HA.out, List.append_nil]
    go_enter Tryd.func12, Tryd.ntmps12
    go_wp2_with fail
    refine (rcopy_c p cp l _ HP.out (by omega)).mono ?_
    rintro e w1 ⟨v, rfl, hown, hb1⟩
    have HF : Hid (∃ pA cA, v = .slice pA A.length cA ∧ Facts p none pA l [] A w1) := by
      rw [HLA.out] at hown
      obtain ⟨pA, cA, rfl, h8⟩ := own_in8' hown
      exact ⟨pA, cA, rfl, HP.out.below hb1, HQ.out.below hb1, h8⟩
    go_wp2_with (at_builtin; refine wpList_append_own_none rfl (.tmp 7) (.tmp 8) 22 rfl w.heap.size 5 j0 1 Tryd.underlying22 hj v l.length (byteCells l) rfl hown rfl ?_)
    have HB2 := Lib.hid hb1
    obtain ⟨pA, cA, rfl, F2⟩ := HF.out
    have J1 := ba_list ha hb
    have J2 := ba_list wa wb
    have J3 := ba_list ba bb
    refine (known_c _).mono ?_
    rintro e w3 ⟨rfl, hb3⟩
    have F3 := F2.below hb3
    go_wp2_with fail
    refine (hex_c pA cA A _ F3.2.2 (by omega)).mono ?_
    rintro e w4 ⟨rfl, hb4⟩
    rw [HX.out.2.2]
    have F4 := F3.below hb4
    go_wp2_with fail
    refine (hex_c p cp l _ F4.1 (by omega)).mono ?_
    rintro e w5 ⟨rfl, hb5⟩
    rw [HX.out.1]
    have F5 := F4.below hb5
    go_wp2_with fail
    refine (hex_c none 0 [] _ F5.2.1 (by first | omega | simp)).mono ?_
    rintro e w6 ⟨rfl, hb6⟩
    rw [HX.out.2.1]
    have F6 := F5.below hb6
    have HB6 := Lib.hid (bnext (bnext (bnext (bnext HB2.out hb3) hb4) hb5) hb6)
    clear F2 F3 F4 F5 hb3 hb4 hb5 hb6
    by_cases h3 : l.length % 3 = 0
    · have t3 : ((l.length : Int) % 3 != 0) = false := by rw [bne_eq_false_iff_eq]; omega
      have HW3 := Lib.hid (HW.out.2.2 h3)
      have HS3 := Lib.hid (HS.out.2.2 h3)
      clear h3
      go_wp2_with fail
      refine (web_c pA cA A _ F6.2.2 (by omega)).mono ?_
      rintro e w7 ⟨rfl, hb7⟩
      rw [HW3.out]
      have F7 := F6.below hb7
      go_wp2_with fail
      refine (web_c p cp l _ F7.1 (by omega)).mono ?_
      rintro e w8 ⟨rfl, hb8⟩
      rw [HW.out.1]
      have F8 := F7.below hb8
      go_wp2_with fail
      refine (web_c none 0 [] _ F8.2.1 (by first | omega | simp)).mono ?_
      rintro e w9 ⟨rfl, hb9⟩
      rw [HW.out.2.1]
      have F9 := F8.below hb9
      go_wp2_with fail
      refine (bas_c pA cA A _ F9.2.2 (by omega)).mono ?_
      rintro e w10 ⟨rfl, hb10⟩
      rw [HS3.out]
      have F10 := F9.below hb10
      go_wp2_with fail
      refine (bas_c p cp l _ F10.1 (by omega)).mono ?_
      rintro e w11 ⟨rfl, hb11⟩
      rw [HS.out.1]
      have F11 := F10.below hb11
      go_wp2_with fail
      refine (bas_c none 0 [] _ F11.2.1 (by first | omega | simp)).mono ?_
      rintro e w12 ⟨rfl, hb12⟩
      rw [HS.out.2.1]
      go_wp2_with fail
      go_ret
      exact ⟨rfl, bnext (bnext (bnext (bnext (bnext (bnext HB6.out hb7) hb8) hb9) hb10) hb11) hb12⟩
    · have t3 : ((l.length : Int) % 3 != 0) = true := by rw [bne_iff_ne]; omega
      clear h3
      go_wp2_with fail
      go_ret
      exact ⟨rfl, HB6.out⟩
  · go_enter Tryd.func12, Tryd.ntmps12
    go_wp2_with fail
    refine (rcopy_c p cp l _ HP.out (by omega)).mono ?_
    rintro e w1 ⟨v, rfl, hown, hb1⟩
    have q1 := HQ.out.below hb1
    go_wp2_with (at_builtin; refine wpList_append_own _ rfl (.tmp 7) (.tmp 8) 22 rfl w.heap.size 5 j0 (.int .u8 0) 1 1 Tryd.underlying22 hj hy0 hy1 hy2 rfl (by decide) v l.length (byteCells l) rfl hown ad m.length cq (byteCells m) rfl (by rw [byteCells_len]; omega) (src_cells q1) (byteCells_one m) (by unfold maxLen; omega) (by omega) hb1.size ?_; intro v2 w2 hown2 hgrow2 _)
    have HB2 := Lib.hid (hb1.grown hgrow2 hb1.size (fun k hk => (hown.lt k hk).1))
    have HF : Hid (∃ pA cA, v2 = .slice pA A.length cA ∧ Facts p (some ad) pA l m A w2) := by
      rw [HBA.out] at hown2
      obtain ⟨pA, cA, rfl, h8⟩ := own_in8' hown2
      exact ⟨pA, cA, rfl, HP.out.below HB2.out, HQ.out.below HB2.out, h8⟩
    clear hown hown2 hgrow2 q1
    obtain ⟨pA, cA, rfl, F2⟩ := HF.out
    have J1 := ba_list ha hb
    have J2 := ba_list wa wb
    have J3 := ba_list ba bb
    refine (known_c _).mono ?_
    rintro e w3 ⟨rfl, hb3⟩
    have F3 := F2.below hb3
    go_wp2_with fail
    refine (hex_c pA cA A _ F3.2.2 (by omega)).mono ?_
    rintro e w4 ⟨rfl, hb4⟩
    rw [HX.out.2.2]
    have F4 := F3.below hb4
    go_wp2_with fail
    refine (hex_c p cp l _ F4.1 (by omega)).mono ?_
    rintro e w5 ⟨rfl, hb5⟩
    rw [HX.out.1]
    have F5 := F4.below hb5
    go_wp2_with fail
    refine (hex_c (some ad) cq m _ F5.2.1 (by first | omega | simp)).mono ?_
    rintro e w6 ⟨rfl, hb6⟩
    rw [HX.out.2.1]
    have F6 := F5.below hb6
    have HB6 := Lib.hid (bnext (bnext (bnext (bnext HB2.out hb3) hb4) hb5) hb6)
    clear F2 F3 F4 F5 hb3 hb4 hb5 hb6
    by_cases h3 : l.length % 3 = 0
    · have t3 : ((l.length : Int) % 3 != 0) = false := by rw [bne_eq_false_iff_eq]; omega
      have HW3 := Lib.hid (HW.out.2.2 h3)
      have HS3 := Lib.hid (HS.out.2.2 h3)
      clear h3
      go_wp2_with fail
      refine (web_c pA cA A _ F6.2.2 (by omega)).mono ?_
      rintro e w7 ⟨rfl, hb7⟩
      rw [HW3.out]
      have F7 := F6.below hb7
      go_wp2_with fail
      refine (web_c p cp l _ F7.1 (by omega)).mono ?_
      rintro e w8 ⟨rfl, hb8⟩
      rw [HW.out.1]
      have F8 := F7.below hb8
      go_wp2_with fail
      refine (web_c (some ad) cq m _ F8.2.1 (by first | omega | simp)).mono ?_
      rintro e w9 ⟨rfl, hb9⟩
      rw [HW.out.2.1]
      have F9 := F8.below hb9
      go_wp2_with fail
      refine (bas_c pA cA A _ F9.2.2 (by omega)).mono ?_
      rintro e w10 ⟨rfl, hb10⟩
      rw [HS3.out]
      have F10 := F9.below hb10
      go_wp2_with fail
      refine (bas_c p cp l _ F10.1 (by omega)).mono ?_
      rintro e w11 ⟨rfl, hb11⟩
      rw [HS.out.1]
      have F11 := F10.below hb11
      go_wp2_with fail
      refine (bas_c (some ad) cq m _ F11.2.1 (by first | omega | simp)).mono ?_
      rintro e w12 ⟨rfl, hb12⟩
      rw [HS.out.2.1]
      go_wp2_with fail
      go_ret
      exact ⟨rfl, bnext (bnext (bnext (bnext (bnext (bnext HB6.out hb7) hb8) hb9) hb10) hb11) hb12⟩
    · have t3 : ((l.length : Int) % 3 != 0) = true := by rw [bne_iff_ne]; omega
      clear h3
      go_wp2_with fail
      go_ret
      exact ⟨rfl, HB6.out⟩
end Go.Proofs.YtddihhpahghajaaDoor.lawD
