/- The developers' has, Header, CutPrefix. Conditions: lengths as each theorem says. -/
import Derived.Test.YtfeafhagnhbmiaaGreatDoorRoI
import Derived.Test.YtfeafhagnhbmiaaGreatDoorGfdv
import Derived.Test.YtfeafhagnhbmiaaGreatDoorOctA
import Derived.Lib.UnsafeStr
import Derived.Lib.AtoiErrMem
import Derived.Laws.BytesArg
namespace Go.Proofs.YtfeafhagnhbmiaaGreatDoor.rol
open Go.RowKit
open Go.Proofs.YtfeafhagnhbmiaaGreatDoor.oct Go.Proofs.YtfeafhagnhbmiaaGreatDoor.ref Go.Proofs.YtfeafhagnhbmiaaGreatDoor.rows Go.Proofs.YtfeafhagnhbmiaaGreatDoor.rowg Go.Proofs.YtfeafhagnhbmiaaGreatDoor.trn
open Go.Proofs.YtfeafhagnhbmiaaGreatDoor.scp (tx Lst lval)
open Go.Proofs.YtfeafhagnhbmiaaGreatDoor.fld (quote unq)
open Go.Lib (byteCells)

theorem conv_row (l : T) (w : World) : ∃ W cp, (convert 9 56 (.string ⟨l.toArray⟩)).run Tryz.prog w = .ok (.slice (some ⟨w.heap.size, 0, none⟩) l.length cp) W ∧ In8 W (some ⟨w.heap.size, 0, none⟩) l ∧ l.length ≤ cp ∧ Below w.heap.size w W := by
  have h := Lib.run_convert_string_bytes (P := Tryz.prog) w 9 56 5 ⟨l.toArray⟩ Tryz.underlying9 Tryz.underlying56 Tryz.underlying5
  have hs : (⟨l.toArray⟩ : ByteArray).size = l.length := List.size_toArray
  refine ⟨_, _, by rw [h, hs], fun _ => ⟨w.heap.size, 0, rfl, fun i hi => ?_⟩, grownCap_ge _ _ _ _, Lib.bytesWorld_below w _ _⟩
  rw [Nat.zero_add]
  have hc := Lib.bytesWorld_cell w 5 ⟨l.toArray⟩ i (by rw [hs]; exact hi)
  rw [hc]
set_option maxRecDepth 100000 in
set_option maxHeartbeats 400000 in
theorem has_c (x : Cm) (s : T) (w : World) (hs : x.sec.length ≤ 9223372036854775807) :
    Calls Tryz.prog 34 #[cval x, .string ⟨s.toArray⟩] w fun e w' => e = .returned (.bool (!x.pub && decide (x.sec = s))) ∧ Below w.heap.size w w' := by
  obtain ⟨id, sec, pub, ⟨P3, C3, l3⟩, ⟨P4, C4, l4⟩, ⟨P5, C5, l5⟩⟩ := x
  show Calls _ _ #[.agg #[.string ⟨id.toArray⟩, .string ⟨sec.toArray⟩, .bool pub, .slice P3 l3.length C3, .slice P4 l4.length C4, .slice P5 l5.length C5], _] w fun e w' => e = .returned (.bool (!pub && decide (sec = s))) ∧ _
  obtain ⟨w1, hw1, hb1, _, _, c1, c2, hrest⟩ := box_c w (.string ⟨id.toArray⟩) (.string ⟨sec.toArray⟩) (.bool pub) (.slice P3 l3.length C3) (.slice P4 l4.length C4) (.slice P5 l5.length C5) 49
  obtain ⟨W, cp, hcv, h8, hcp, hbW⟩ := conv_row sec w1
  obtain ⟨W2, cp2, hcv2, h82, hcp2, hbW2⟩ := conv_row s W
  have HB := Lib.hid hb1
  have HW := Lib.hid (bnext (bnext hb1 hbW) hbW2)
  have HSM := Lib.hid (same_c (some ⟨w1.heap.size, 0, none⟩) (some ⟨W.heap.size, 0, none⟩) cp cp2 sec s W2 (h8.below hbW2) h82 hs)
  clear hb1 hrest h8 h82 hbW hbW2 hcp hcp2 hs
  cases pub with
  | true =>
    clear hcv hcv2 HSM HW
    go_enter Tryz.func34, Tryz.ntmps34
    go_wp2_with fail
    go_ret
    exact ⟨rfl, HB.out⟩
  | false =>
    go_enter Tryz.func34, Tryz.ntmps34
    go_wp2_with (go_at_call 61; (with_reducible refine HSM.out.mono ?_); rintro e w2 ⟨rfl, rfl⟩)
    go_ret
    exact ⟨by simp, HW.out⟩
theorem ba3h (a b : T) : ((⟨a.toArray⟩ : ByteArray) ++ ⟨#[58]⟩ ++ ⟨b.toArray⟩) = ⟨(a ++ 58 :: b).toArray⟩ := by ext1; simp
theorem ba2h (a : T) : ((⟨#[66, 97, 115, 105, 99, 32]⟩ : ByteArray) ++ ⟨a.toArray⟩) = ⟨(wBas ++ a).toArray⟩ := by ext1; simp [wBas]
set_option maxRecDepth 100000 in
set_option maxHeartbeats 400000 in
theorem header_c (id sec : T) (w : World) (h1 : id.length ≤ 1048576) (h2 : sec.length ≤ 1048576) :
    Calls Tryz.prog 7 #[.string ⟨id.toArray⟩, .string ⟨sec.toArray⟩] w fun e w' => e = .returned (.string ⟨(headP id sec).toArray⟩) ∧ Below w.heap.size w w' := by
  have l1 := fld.quote_len id
  have l2 := fld.quote_len sec
  have HQ1 := Lib.hid (fun W => fdv.dquote_c id W h1)
  have HQ2 := Lib.hid (fun W => fdv.dquote_c sec W h2)
  have HR : Hid (headP id sec = wBas ++ basT (quote id ++ 58 :: quote sec)) := rfl
  obtain ⟨a, ha⟩ : ∃ a, quote id = a := ⟨_, rfl⟩
  obtain ⟨b, hb⟩ : ∃ b, quote sec = b := ⟨_, rfl⟩
  rw [ha] at HQ1 HR l1
  rw [hb] at HQ2 HR l2
  have HCV : Hid (∀ W, ∃ W' cp, (convert 9 56 (.string ((⟨a.toArray⟩ : ByteArray) ++ ⟨#[58]⟩ ++ ⟨b.toArray⟩))).run Tryz.prog W = .ok (.slice (some ⟨W.heap.size, 0, none⟩) (a ++ 58 :: b).length cp) W' ∧ In8 W' (some ⟨W.heap.size, 0, none⟩) (a ++ 58 :: b) ∧ (a ++ 58 :: b).length ≤ cp ∧ Below W.heap.size W W') := Lib.hid fun W => by rw [ba3h]; exact conv_row (a ++ 58 :: b) W
  have hlen : (a ++ 58 :: b).length = a.length + (b.length + 1) := by simp
  have hbl := basT_len (a ++ 58 :: b)
  have hn1 : ¬ (9223372036854775807 < a.length + 1) := by omega
  have hn2 : ¬ (9223372036854775807 < a.length + 1 + b.length) := by omega
  have HBS : Hid (∀ W p cp, In8 W p (a ++ 58 :: b) → Calls Tryz.prog 21 #[.slice p (a ++ 58 :: b).length cp] W fun e w' => e = .returned (.string ⟨(basT (a ++ 58 :: b)).toArray⟩) ∧ Below W.heap.size W w') := Lib.hid fun W p cp hp => bas_c p cp _ W hp (by omega)
  have hn3 : ¬ (9223372036854775807 < 6 + (basT (a ++ 58 :: b)).length) := by omega
  obtain ⟨m, hm⟩ : ∃ m, (a ++ 58 :: b).length = m := ⟨_, rfl⟩
  obtain ⟨s, hs⟩ : ∃ s, basT (a ++ 58 :: b) = s := ⟨_, rfl⟩
  rw [hm] at HCV
  rw [hm, hs] at HBS
  rw [hs] at HR hn3
  clear ha hb hlen hbl hm hs l1 l2 h1 h2
  go_enter Tryz.func7, Tryz.ntmps7
  go_wp2_with fail
  refine (HQ1.out _).mono ?_
  rintro e w1 ⟨rfl, hb1⟩
  have HB1 := Lib.hid hb1
  clear hb1
  go_wp2_with fail
  refine (HQ2.out _).mono ?_
  rintro e w2 ⟨rfl, hb2⟩
  have HB2 := Lib.hid (bnext HB1.out hb2)
  obtain ⟨w3, cp, hcv, h8, hcp, hb3⟩ := HCV.out w2
  have HB3 := Lib.hid (bnext HB2.out hb3)
  have HBQ := Lib.hid (HBS.out w3 _ cp h8)
  clear hb2 h8 hcp hb3
  go_wp2_with (go_at_call 21; (with_reducible refine HBQ.out.mono ?_); rintro e w4 ⟨rfl, hb4⟩; have HB4 := Lib.hid (bnext HB3.out hb4); clear hb4)
  go_ret
  exact ⟨by rw [HR.out, ← ba2h]; rfl, HB4.out⟩
theorem prefix_eq (s : T) : ((⟨s.toArray⟩ : ByteArray).extract 0 6) = ⟨(s.take 6).toArray⟩ := by
  ext1
  simp [ByteArray.data_extract]
set_option maxRecDepth 100000 in
set_option maxHeartbeats 400000 in
theorem hasPrefix_c (s : T) (w : World) : Calls Tryz.prog 91 #[.string ⟨s.toArray⟩, .string ⟨#[66, 97, 115, 105, 99, 32]⟩] w fun e w' => e = .returned (.bool (decide (s.take 6 = wBas))) ∧ w = w' := by
  have hsz : (⟨#[66, 97, 115, 105, 99, 32]⟩ : ByteArray).size = 6 := rfl
  obtain ⟨b, hb⟩ : ∃ b, decide (s.take 6 = wBas) = b := ⟨_, rfl⟩
  rw [hb]
  by_cases h6 : 6 ≤ s.length
  · have he := prefix_eq s
    have hss : (⟨s.toArray⟩ : ByteArray).size = s.length := size_mk s
    have i6 : decide ((6 : Int) ≤ (s.length : Int)) = true := decide_eq_true (by omega)
    have i6n : decide (6 ≤ s.length) = true := decide_eq_true h6
    have hq : (s.take 6 == wBas) = b := by rw [← hb]; by_cases e : s.take 6 = wBas <;> simp [e]
    have HQ := Lib.hid hq
    unfold wBas at hq
    clear hb
    go_enter Tryz.func91, Tryz.ntmps91
    go_wp2_with fail
    go_ret
    exact ⟨rfl, rfl⟩
  · have i6 : decide ((6 : Int) ≤ (s.length : Int)) = false := decide_eq_false (by omega)
    have i6n : decide (6 ≤ s.length) = false := decide_eq_false h6
    have hss : (⟨s.toArray⟩ : ByteArray).size = s.length := size_mk s
    have HB : Hid (b = false) := Lib.hid (by rw [← hb]; exact decide_eq_false fun e => by have := congrArg List.length e; rw [List.length_take] at this; have h2 : wBas.length = 6 := rfl; omega)
    clear hb
    go_enter Tryz.func91, Tryz.ntmps91
    go_wp2_with fail
    go_ret
    exact ⟨ret_bool HB.out.symm, rfl⟩
theorem suffix_eq (s : T) : ((⟨s.toArray⟩ : ByteArray).extract 6 s.length) = ⟨(s.drop 6).toArray⟩ := by
  ext1
  simp [ByteArray.data_extract]
  exact List.take_of_length_le (by simp)
set_option maxRecDepth 100000 in
set_option maxHeartbeats 400000 in
theorem cutPrefix_i (s : T) (w : World) : Calls Tryz.prog 83 #[.string ⟨s.toArray⟩, .string ⟨#[66, 97, 115, 105, 99, 32]⟩] w fun e w' => e = .returned (.tuple #[.string ⟨(if s.take 6 = wBas then s.drop 6 else s).toArray⟩, .bool (decide (s.take 6 = wBas))]) ∧ w = w' := by
  have hsz : (⟨#[66, 97, 115, 105, 99, 32]⟩ : ByteArray).size = 6 := rfl
  have hss : (⟨s.toArray⟩ : ByteArray).size = s.length := size_mk s
  have he := suffix_eq s
  have HP := Lib.hid (hasPrefix_c s w)
  by_cases hb : s.take 6 = wBas
  · have h6 : 6 ≤ s.length := by have := congrArg List.length hb; rw [List.length_take] at this; have h2 : wBas.length = 6 := rfl; omega
    rw [decide_eq_true hb] at HP ⊢
    rw [if_pos hb]
    clear hb
    go_enter Tryz.func83, Tryz.ntmps83
    go_wp2_with (go_at_call 91; (with_reducible refine HP.out.mono ?_); rintro e w2 ⟨rfl, rfl⟩)
    go_ret2
    exact ⟨rfl, rfl⟩
  · rw [decide_eq_false hb] at HP ⊢
    rw [if_neg hb]
    clear hb
    go_enter Tryz.func83, Tryz.ntmps83
    go_wp2_with (go_at_call 91; (with_reducible refine HP.out.mono ?_); rintro e w2 ⟨rfl, rfl⟩)
    go_ret2
    exact ⟨rfl, rfl⟩
set_option maxRecDepth 100000 in
set_option maxHeartbeats 400000 in
theorem cutPrefix_c (s : T) (w : World) : Calls Tryz.prog 62 #[.string ⟨s.toArray⟩, .string ⟨#[66, 97, 115, 105, 99, 32]⟩] w fun e w' => e = .returned (.tuple #[.string ⟨(if s.take 6 = wBas then s.drop 6 else s).toArray⟩, .bool (decide (s.take 6 = wBas))]) ∧ w = w' := by
  have HP := Lib.hid (cutPrefix_i s w)
  obtain ⟨r, hr⟩ : ∃ r, (if s.take 6 = wBas then s.drop 6 else s) = r := ⟨_, rfl⟩
  obtain ⟨b, hb⟩ : ∃ b, decide (s.take 6 = wBas) = b := ⟨_, rfl⟩
  rw [hr, hb] at HP ⊢
  clear hr hb
  go_enter Tryz.func62, Tryz.ntmps62
  go_wp2_with (go_at_call 83; (with_reducible refine HP.out.mono ?_); rintro e w2 ⟨rfl, rfl⟩)
  go_ret2
  exact ⟨rfl, rfl⟩
end Go.Proofs.YtfeafhagnhbmiaaGreatDoor.rol
