/- ScopeBack by SApi. -/
import Derived.Test.YtcklbbbplbboaaaDoorScpLa
namespace Go.Proofs.YtcklbbbplbboaaaDoor.scp
open Go.RowKit
open Go.Proofs.YtcklbbbplbboaaaDoor.oct Go.Proofs.YtcklbbbplbboaaaDoor.ref Go.Proofs.YtcklbbbplbboaaaDoor.rows Go.Proofs.YtcklbbbplbboaaaDoor.rowg

theorem print_le (l : List T) : (printP l).length ≤ (setP l).length * 65 := joinP_le 64 (setP l) (fun x hx => (word_len ((setP_mem l x).1 hx).2).2)
set_option maxRecDepth 100000 in
set_option maxHeartbeats 4000000 in
theorem law_back {T' : World → Prop} (X : SApi T') (x : Lst) (s : ByteArray) (w : World) (hx : ArgL w x) (hs : s.size ≤ 140737488351232) (ht : T' w) :
    Calls Tryd.prog 7 #[lval x, .string s] w fun e w' => e = .returned (.bool true) ∧ Below w.heap.size w w' := by
  have HSZ := Lib.hid hs
  have HSL : Hid (s.data.toList.length = s.size) := by show _ = _; rw [Array.length_toList]; rfl
  have HF := Lib.hid (few_l x w hx)
  have HM := Lib.hid (good_few hx)
  obtain ⟨m, hm⟩ : ∃ m : Lst, (x.1, x.2.1, x.2.2.take 300) = m := ⟨_, rfl⟩
  rw [hm] at HF HM
  have HT := Lib.hid ht
  have HX := Lib.hid X
  have HP := Lib.hid (fun w ht => (X.parse s w ht hs).mono fun e w' h => par_good h)
  have HOK := Lib.hid (parse_ok (s := s.data.toList))
  have HER := Lib.hid (parse_err (s := s.data.toList))
  obtain ⟨⟨n, r⟩, hr⟩ : ∃ r, parseP s.data.toList = r := ⟨_, rfl⟩
  rw [hr] at HP HOK HER
  dsimp only at HP HOK HER
  have hsl : setP m.2.2 = setP m.2.2 := rfl
  have HS1 := Lib.hid (Nat.le_trans (setP_len m.2.2) HM.out.few)
  have HPP := Lib.hid (parse_print m.2.2)
  have HPL := Lib.hid (print_le (setP m.2.2))
  have HID : Hid ((setP (setP m.2.2)).length ≤ 4194304) := Nat.le_trans (setP_len _) (Nat.le_trans (setP_len m.2.2) HM.out.few)
  obtain ⟨L, hL⟩ : ∃ L, printP (setP m.2.2) = L := ⟨_, rfl⟩
  have HLL : Hid (L.length ≤ 4194304 * 65) := by
    show _ ≤ _
    rw [← hL]; exact Nat.le_trans HPL.out (Nat.mul_le_mul_right 65 HID.out)
  have HPR : Hid (∀ w p c, T' w → GoodL w (p, c, setP m.2.2) → Calls Tryd.prog 17 #[lval (p, c, setP m.2.2)] w fun e w' => e = .returned (tx L) ∧ Below w.heap.size w w') := fun w p c h1 h2 => by rw [← hL]; exact X.print _ w h1 h2
  rw [hL] at HPP
  have HPA : Hid (∀ w, T' w → Calls Tryd.prog 19 #[.string ⟨L.toArray⟩] w fun e w' => ∃ p c, e = .returned (.tuple #[lval (p, c, (parseP L).2), .int .i64 ((parseP L).1 : Nat)]) ∧ GoodL w' (p, c, (parseP L).2) ∧ Below w.heap.size w w') := fun w h =>
    (X.parse ⟨L.toArray⟩ w h (by rw [size_mk]; have := HLL.out; omega)).mono fun e w' h => par_good h
  obtain ⟨⟨n1, r1⟩, hr1⟩ : ∃ r, parseP L = r := ⟨_, rfl⟩
  rw [hr1] at HPA HPP
  dsimp only at HPA
  obtain ⟨S, hS⟩ : ∃ S, setP m.2.2 = S := ⟨_, rfl⟩
  have HSET : Hid (∀ w, T' w → GoodL w m → Calls Tryd.prog 15 #[lval m] w fun e w' => ∃ p c, e = .returned (lval (p, c, S)) ∧ GoodL w' (p, c, S) ∧ Below w.heap.size w w') := fun w h1 h2 =>
    (X.set m w h1 h2).mono fun e w' ⟨v, h3, h4, h5⟩ => by
      obtain ⟨p, c, rfl, hg⟩ := own_good h4 (fit_set _) (Nat.le_trans (setP_len _) h2.few)
      rw [hS] at hg h3
      exact ⟨p, c, h3, hg, h5⟩
  rw [hS] at HPP HPR
  clear ht X hm hL hx hr hr1 hS hsl HPL HID HS1 hs
  go_enter Tryd.func7, Tryd.ntmps7
  go_wp2_with fail
  refine HF.out.mono ?_
  rintro e w1 ⟨rfl, rfl⟩
  go_wp2_with fail
  refine (HSET.out w HT.out HM.out).mono ?_
  rintro e w1 ⟨p, c, rfl, hg, hb1⟩
  have HB1 := Lib.hid hb1
  have HG := Lib.hid hg
  clear hg hb1 HSET
  go_wp2_with fail
  refine (HPR.out w1 p c (HX.out.tbelow _ _ HT.out HB1.out) HG.out).mono ?_
  rintro e w2 ⟨rfl, hb2⟩
  have HB2 := Lib.hid (bnext HB1.out hb2)
  have HG := Lib.hid (HG.out.below hb2)
  clear hb2
  unfold tx
  go_wp2_with fail
  refine (HPA.out w2 (HX.out.tbelow _ _ HT.out HB2.out)).mono ?_
  rintro e w3 ⟨p1, c1, rfl, hg1, hb3⟩
  have HB3 := Lib.hid (bnext HB2.out hb3)
  have HG := Lib.hid (HG.out.below hb3)
  have HG1 := Lib.hid hg1
  clear hb3 hg1
  go_wp2_with fail
  refine (sknown_c HX.out w3 (HX.out.tbelow _ _ HT.out HB3.out)).mono ?_
  rintro e w4 ⟨rfl, hb4⟩
  have HB4 := Lib.hid (bnext HB3.out hb4)
  have HG := Lib.hid (HG.out.below hb4)
  have HG1 := Lib.hid (HG1.out.below hb4)
  clear hb4
  by_cases h32 : S.length ≤ 32
  · have h := HPP.out h32
    injection h with e1 e2
    subst e1
    subst e2
    have hI : ((r1.length : Nat) : Int) ≤ 32 := by omega
    clear h32
    unfold lval
    dsimp only
    go_wp2_with fail
    refine (rsame_t HG1.out HG.out rfl).mono ?_
    rintro e w5 ⟨rfl, hb5⟩
    have HB5 := Lib.hid (bnext HB4.out hb5)
    clear hb5
    go_wp2_with fail
    refine (HP.out w5 (HX.out.tbelow _ _ HT.out HB5.out)).mono ?_
    rintro e w6 ⟨p6, c6, rfl, hg6, hb6⟩
    have HB6 := Lib.hid (bnext HB5.out hb6)
    have HG6 := Lib.hid hg6
    clear hb6 hg6
    by_cases h0 : n = 0
    · subst h0
      obtain ⟨q1, q2, q3, _⟩ := HOK.out rfl
      have hq1 : (r.length : Int) ≤ 32 := by omega
      rw [HSL.out] at q3
      obtain ⟨L2, hL2⟩ : ∃ L, printP r = L := ⟨_, rfl⟩
      rw [hL2] at q2 q3
      have HP2 : Hid (∀ w, T' w → GoodL w (p6, c6, r) → Calls Tryd.prog 17 #[lval (p6, c6, r)] w fun e w' => e = .returned (tx L2) ∧ Below w.heap.size w w') := fun w h1 h2 => by rw [← hL2]; exact HX.out.print _ w h1 h2
      have h2s := size_mk L2
      have hq3 : ((⟨L2.toArray⟩ : ByteArray).size : Int) ≤ (s.size : Int) := by omega
      have HPA2 : Hid (∀ w, T' w → Calls Tryd.prog 19 #[.string ⟨L2.toArray⟩] w fun e w' => ∃ p c, e = .returned (.tuple #[lval (p, c, r), .int .i64 0]) ∧ GoodL w' (p, c, r) ∧ Below w.heap.size w w') := fun w h => by
        have hk := (HX.out.parse ⟨L2.toArray⟩ w h (by rw [h2s]; have := HSZ.out; omega)).mono fun e w' h => par_good h
        rw [show (⟨L2.toArray⟩ : ByteArray).data.toList = L2 from rfl, q2] at hk
        exact hk
      have HQ3 := Lib.hid hq3
      have HQN : Hid (L2.length ≤ s.size) := q3
      unfold lval at HP2 HPA2 ⊢
      dsimp only at HP2 HPA2 ⊢
      clear hL2 q1 q2 q3 hq3 h2s
      go_wp2_with fail
      refine (HP2.out w6 (HX.out.tbelow _ _ HT.out HB6.out) HG6.out).mono ?_
      rintro e w7 ⟨rfl, hb7⟩
      have HB7 := Lib.hid (bnext HB6.out hb7)
      have HG7 := Lib.hid (HG6.out.below hb7)
      clear hb7
      unfold tx
      go_wp2_with fail
      refine (HPA2.out w7 (HX.out.tbelow _ _ HT.out HB7.out)).mono ?_
      rintro e w8 ⟨p8, c8, rfl, hg8, hb8⟩
      have HB8 := Lib.hid (bnext HB7.out hb8)
      have HG8 := Lib.hid (HG7.out.below hb8)
      have HG9 := Lib.hid hg8
      clear hb8 hg8
      go_wp2_with fail
      refine (rsame_t HG8.out HG9.out rfl).mono ?_
      rintro e w9 ⟨rfl, hb9⟩
      have HB9 := Lib.hid (bnext HB8.out hb9)
      have HG10 := Lib.hid (HG8.out.below hb9)
      clear hb9
      go_wp2_with fail
      refine (HP2.out w9 (HX.out.tbelow _ _ HT.out HB9.out) HG10.out).mono ?_
      rintro e w10 ⟨rfl, hb10⟩
      have HB10 := Lib.hid (bnext HB9.out hb10)
      clear hb10
      unfold tx
      have hq3 := HQ3.out
      go_wp2_with fail
      go_ret
      exact ⟨ret_bool (decide_eq_true HQN.out), HB10.out⟩
    · obtain rfl : r = [] := HER.out h0
      have hn0 : ((n : Int) != 0) = true := by rw [bne_iff_ne]; omega
      unfold lval
      dsimp only
      rw [show ([] : List T).length = 0 from rfl]
      go_wp2_with fail
      go_ret
      exact ⟨rfl, HB6.out⟩
  · have hI : ¬ (((S.length : Nat) : Int) ≤ 32) := by omega
    have hD : decide (((S.length : Nat) : Int) ≤ 32) = false := decide_eq_false hI
    clear h32
    unfold lval
    dsimp only
    have HB5 := HB4
    obtain ⟨w5, hw5⟩ : ∃ w5, w5 = w4 := ⟨_, rfl⟩
    subst hw5
    go_wp2_with fail
    refine (HP.out w5 (HX.out.tbelow _ _ HT.out HB5.out)).mono ?_
    rintro e w6 ⟨p6, c6, rfl, hg6, hb6⟩
    have HB6 := Lib.hid (bnext HB5.out hb6)
    have HG6 := Lib.hid hg6
    clear hb6 hg6
    by_cases h0 : n = 0
    · subst h0
      obtain ⟨q1, q2, q3, _⟩ := HOK.out rfl
      have hq1 : (r.length : Int) ≤ 32 := by omega
      rw [HSL.out] at q3
      obtain ⟨L2, hL2⟩ : ∃ L, printP r = L := ⟨_, rfl⟩
      rw [hL2] at q2 q3
      have HP2 : Hid (∀ w, T' w → GoodL w (p6, c6, r) → Calls Tryd.prog 17 #[lval (p6, c6, r)] w fun e w' => e = .returned (tx L2) ∧ Below w.heap.size w w') := fun w h1 h2 => by rw [← hL2]; exact HX.out.print _ w h1 h2
      have h2s := size_mk L2
      have hq3 : ((⟨L2.toArray⟩ : ByteArray).size : Int) ≤ (s.size : Int) := by omega
      have HPA2 : Hid (∀ w, T' w → Calls Tryd.prog 19 #[.string ⟨L2.toArray⟩] w fun e w' => ∃ p c, e = .returned (.tuple #[lval (p, c, r), .int .i64 0]) ∧ GoodL w' (p, c, r) ∧ Below w.heap.size w w') := fun w h => by
        have hk := (HX.out.parse ⟨L2.toArray⟩ w h (by rw [h2s]; have := HSZ.out; omega)).mono fun e w' h => par_good h
        rw [show (⟨L2.toArray⟩ : ByteArray).data.toList = L2 from rfl, q2] at hk
        exact hk
      have HQ3 := Lib.hid hq3
      have HQN : Hid (L2.length ≤ s.size) := q3
      unfold lval at HP2 HPA2 ⊢
      dsimp only at HP2 HPA2 ⊢
      clear hL2 q1 q2 q3 hq3 h2s
      go_wp2_with fail
      refine (HP2.out w6 (HX.out.tbelow _ _ HT.out HB6.out) HG6.out).mono ?_
      rintro e w7 ⟨rfl, hb7⟩
      have HB7 := Lib.hid (bnext HB6.out hb7)
      have HG7 := Lib.hid (HG6.out.below hb7)
      clear hb7
      unfold tx
      go_wp2_with fail
      refine (HPA2.out w7 (HX.out.tbelow _ _ HT.out HB7.out)).mono ?_
      rintro e w8 ⟨p8, c8, rfl, hg8, hb8⟩
      have HB8 := Lib.hid (bnext HB7.out hb8)
      have HG8 := Lib.hid (HG7.out.below hb8)
      have HG9 := Lib.hid hg8
      clear hb8 hg8
      go_wp2_with fail
      refine (rsame_t HG8.out HG9.out rfl).mono ?_
      rintro e w9 ⟨rfl, hb9⟩
      have HB9 := Lib.hid (bnext HB8.out hb9)
      have HG10 := Lib.hid (HG8.out.below hb9)
      clear hb9
      go_wp2_with fail
      refine (HP2.out w9 (HX.out.tbelow _ _ HT.out HB9.out) HG10.out).mono ?_
      rintro e w10 ⟨rfl, hb10⟩
      have HB10 := Lib.hid (bnext HB9.out hb10)
      clear hb10
      unfold tx
      have hq3 := HQ3.out
      go_wp2_with fail
      go_ret
      exact ⟨ret_bool (decide_eq_true HQN.out), HB10.out⟩
    · obtain rfl : r = [] := HER.out h0
      have hn0 : ((n : Int) != 0) = true := by rw [bne_iff_ne]; omega
      unfold lval
      dsimp only
      rw [show ([] : List T).length = 0 from rfl]
      go_wp2_with fail
      go_ret
      exact ⟨rfl, HB6.out⟩
end Go.Proofs.YtcklbbbplbboaaaDoor.scp
