/- DriftRises by DApi. -/
import Derived.Test.YtidgmobnclchkaaDriApi
namespace Go.Proofs.Ytidgmobnclchkaa.dri
open Go.RowKit
open Go.Proofs.Ytidgmobnclchkaa.oct Go.Proofs.Ytidgmobnclchkaa.ref Go.Proofs.Ytidgmobnclchkaa.rows

theorem plain_bad {n d : Int} (h : rightB n d = false) : leastP n d = (0, 1) ∧ mostP n d = (0, 1) ∧ shortP n d = (0, 1) := by
  unfold leastP mostP shortP
  rw [h]
  exact ⟨rfl, rfl, rfl⟩
theorem plain_ok {n d : Int} (h : rightB n d = true) : leastP n d = ((1000 * n + (1000 + d) - 1) / (1000 + d), 0) ∧ mostP n d = (1000 * n / (1000 - d), 0) ∧ shortP n d = (n * (1000 - d) / (1000 + d), 0) := by
  unfold leastP mostP shortP
  rw [h]
  exact ⟨rfl, rfl, rfl⟩
set_option maxHeartbeats 4000000 in
theorem law_rises {T' : World → Prop} (X : DApi T') (n m d : Int) (w : World) (hn : I64 n) (hm : I64 m) (hd : I64 d) (ht : T' w) :
    Calls Try.prog 8 #[.int .i64 n, .int .i64 m, .int .i64 d] w fun e w' => e = .returned (.bool true) ∧ Below w.heap.size w w' := by
  obtain ⟨p, q, hpq⟩ : ∃ p q : Int, (m < n ∧ p = m ∧ q = n) ∨ (¬ m < n ∧ p = n ∧ q = m) := by
    by_cases h : m < n
    · exact ⟨m, n, Or.inl ⟨h, rfl, rfl⟩⟩
    · exact ⟨n, m, Or.inr ⟨h, rfl, rfl⟩⟩
  have hp : I64 p := by rcases hpq with ⟨_, h, _⟩ | ⟨_, h, _⟩ <;> rw [h] <;> assumption
  have hq : I64 q := by rcases hpq with ⟨_, _, h⟩ | ⟨_, _, h⟩ <;> rw [h] <;> assumption
  have hle : p ≤ q := by omega
  have HT := Lib.hid ht
  have HX := Lib.hid X
  have HK := Lib.hid (fun w ht => dknown_c X w ht)
  have H1 := Lib.hid (fun w ht => X.least p d w ht hp hd)
  have H2 := Lib.hid (fun w ht => X.most p d w ht hp hd)
  have H3 := Lib.hid (fun w ht => X.short p d w ht hp hd)
  have H4 := Lib.hid (fun w ht => X.least q d w ht hq hd)
  have H5 := Lib.hid (fun w ht => X.most q d w ht hq hd)
  have H6 := Lib.hid (fun w ht => X.short q d w ht hq hd)
  have HW := Lib.hid (Below.refl w.heap.size w)
  have hF : Hid (rightB p d = true → rightB q d = true → ((leastP p d).1 ≤ p ∧ p ≤ (mostP p d).1 ∧ (shortP p d).1 ≤ (leastP p d).1) ∧ ((leastP p d).1 ≤ (leastP q d).1 ∧ (mostP p d).1 ≤ (mostP q d).1 ∧ (shortP p d).1 ≤ (shortP q d).1) ∧ (d = 0 → (leastP p d).1 = p ∧ (mostP p d).1 = p ∧ (shortP p d).1 = p)) := by
    intro h1 h2
    obtain ⟨⟨k1, _⟩, k3, k4⟩ := right_iff.1 h1
    rw [(plain_ok h1).1, (plain_ok h1).2.1, (plain_ok h1).2.2, (plain_ok h2).1, (plain_ok h2).2.1, (plain_ok h2).2.2]
    refine ⟨bounds_order k1 ⟨k3, k4⟩, bounds_rise hle ⟨k3, k4⟩, fun hz => ?_⟩
    subst hz
    exact bounds_zero p
  cases h1 : rightB p d with
  | false =>
    obtain ⟨e1, e2, e3⟩ := plain_bad h1
    rw [e1] at H1
    rw [e2] at H2
    rw [e3] at H3
    obtain ⟨⟨x4, y4⟩, h4⟩ : ∃ b, leastP q d = b := ⟨_, rfl⟩
    obtain ⟨⟨x5, y5⟩, h5⟩ : ∃ b, mostP q d = b := ⟨_, rfl⟩
    obtain ⟨⟨x6, y6⟩, h6⟩ : ∃ b, shortP q d = b := ⟨_, rfl⟩
    rw [h4] at H4
    rw [h5] at H5
    rw [h6] at H6
    clear ht X h1 e1 e2 e3 h4 h5 h6 hF hp hq hm hn hd
    rcases hpq with ⟨h, h7, h8⟩ | ⟨h, h7, h8⟩
    all_goals
      subst h7 h8
      go_enter Try.func8, Try.ntmps8
    all_goals
      go_wp2_with fail
      refine (H1.out _ (HX.out.tbelow _ _ HT.out HW.out)).mono ?_
      rintro e w1 ⟨rfl, hb⟩
      have HW := Lib.hid (bnext HW.out hb)
      clear hb
      go_wp2_with fail
      refine (H2.out _ (HX.out.tbelow _ _ HT.out HW.out)).mono ?_
      rintro e w2 ⟨rfl, hb⟩
      have HW := Lib.hid (bnext HW.out hb)
      clear hb
      go_wp2_with fail
      refine (H3.out _ (HX.out.tbelow _ _ HT.out HW.out)).mono ?_
      rintro e w3 ⟨rfl, hb⟩
      have HW := Lib.hid (bnext HW.out hb)
      clear hb
      go_wp2_with fail
      refine (H4.out _ (HX.out.tbelow _ _ HT.out HW.out)).mono ?_
      rintro e w4 ⟨rfl, hb⟩
      have HW := Lib.hid (bnext HW.out hb)
      clear hb
      go_wp2_with fail
      refine (H5.out _ (HX.out.tbelow _ _ HT.out HW.out)).mono ?_
      rintro e w5 ⟨rfl, hb⟩
      have HW := Lib.hid (bnext HW.out hb)
      clear hb
      go_wp2_with fail
      refine (H6.out _ (HX.out.tbelow _ _ HT.out HW.out)).mono ?_
      rintro e w6 ⟨rfl, hb⟩
      have HW := Lib.hid (bnext HW.out hb)
      clear hb
    all_goals
      go_wp2_with fail
      refine (HK.out _ (HX.out.tbelow _ _ HT.out HW.out)).mono ?_
      rintro e w7 ⟨rfl, hb⟩
      have HW := Lib.hid (bnext HW.out hb)
      clear hb
      go_wp2_with fail
      go_ret
      exact ⟨rfl, HW.out⟩
  | true =>
    cases h2 : rightB q d with
    | false =>
      obtain ⟨e1, e2, e3⟩ := plain_ok h1
      obtain ⟨e4, e5, e6⟩ := plain_bad h2
      obtain ⟨x1, h4⟩ : ∃ b, (1000 * p + (1000 + d) - 1) / (1000 + d) = b := ⟨_, rfl⟩
      obtain ⟨x2, h5⟩ : ∃ b, 1000 * p / (1000 - d) = b := ⟨_, rfl⟩
      obtain ⟨x3, h6⟩ : ∃ b, p * (1000 - d) / (1000 + d) = b := ⟨_, rfl⟩
      rw [e1, h4] at H1
      rw [e2, h5] at H2
      rw [e3, h6] at H3
      rw [e4] at H4
      rw [e5] at H5
      rw [e6] at H6
      clear ht X h1 h2 e1 e2 e3 e4 e5 e6 h4 h5 h6 hF hp hq hm hn hd
      rcases hpq with ⟨h, h7, h8⟩ | ⟨h, h7, h8⟩
      all_goals
        subst h7 h8
        go_enter Try.func8, Try.ntmps8
      all_goals
        go_wp2_with fail
        refine (H1.out _ (HX.out.tbelow _ _ HT.out HW.out)).mono ?_
        rintro e w1 ⟨rfl, hb⟩
        have HW := Lib.hid (bnext HW.out hb)
        clear hb
        go_wp2_with fail
        refine (H2.out _ (HX.out.tbelow _ _ HT.out HW.out)).mono ?_
        rintro e w2 ⟨rfl, hb⟩
        have HW := Lib.hid (bnext HW.out hb)
        clear hb
        go_wp2_with fail
        refine (H3.out _ (HX.out.tbelow _ _ HT.out HW.out)).mono ?_
        rintro e w3 ⟨rfl, hb⟩
        have HW := Lib.hid (bnext HW.out hb)
        clear hb
        go_wp2_with fail
        refine (H4.out _ (HX.out.tbelow _ _ HT.out HW.out)).mono ?_
        rintro e w4 ⟨rfl, hb⟩
        have HW := Lib.hid (bnext HW.out hb)
        clear hb
        go_wp2_with fail
        refine (H5.out _ (HX.out.tbelow _ _ HT.out HW.out)).mono ?_
        rintro e w5 ⟨rfl, hb⟩
        have HW := Lib.hid (bnext HW.out hb)
        clear hb
        go_wp2_with fail
        refine (H6.out _ (HX.out.tbelow _ _ HT.out HW.out)).mono ?_
        rintro e w6 ⟨rfl, hb⟩
        have HW := Lib.hid (bnext HW.out hb)
        clear hb
      all_goals
        go_wp2_with fail
        refine (HK.out _ (HX.out.tbelow _ _ HT.out HW.out)).mono ?_
        rintro e w7 ⟨rfl, hb⟩
        have HW := Lib.hid (bnext HW.out hb)
        clear hb
        go_wp2_with fail
        go_ret
        exact ⟨rfl, HW.out⟩
    | true =>
      obtain ⟨⟨f1, f2, f3⟩, ⟨f4, f5, f6⟩, f7⟩ := hF.out h1 h2
      obtain ⟨e1, e2, e3⟩ := plain_ok h1
      obtain ⟨e4, e5, e6⟩ := plain_ok h2
      rw [e1] at H1 f1 f3 f4 f7
      rw [e2] at H2 f2 f5 f7
      rw [e3] at H3 f3 f6 f7
      rw [e4] at H4 f4
      rw [e5] at H5 f5
      rw [e6] at H6 f6
      obtain ⟨x1, h11⟩ : ∃ b, (1000 * p + (1000 + d) - 1) / (1000 + d) = b := ⟨_, rfl⟩
      obtain ⟨x2, h12⟩ : ∃ b, 1000 * p / (1000 - d) = b := ⟨_, rfl⟩
      obtain ⟨x3, h13⟩ : ∃ b, p * (1000 - d) / (1000 + d) = b := ⟨_, rfl⟩
      obtain ⟨x4, h14⟩ : ∃ b, (1000 * q + (1000 + d) - 1) / (1000 + d) = b := ⟨_, rfl⟩
      obtain ⟨x5, h15⟩ : ∃ b, 1000 * q / (1000 - d) = b := ⟨_, rfl⟩
      obtain ⟨x6, h16⟩ : ∃ b, q * (1000 - d) / (1000 + d) = b := ⟨_, rfl⟩
      dsimp only at f1 f2 f3 f4 f5 f6 f7
      rw [h11] at H1 f1 f3 f4 f7
      rw [h12] at H2 f2 f5 f7
      rw [h13] at H3 f3 f6 f7
      rw [h14] at H4 f4
      rw [h15] at H5 f5
      rw [h16] at H6 f6
      clear ht X h1 h2 e1 e2 e3 e4 e5 e6 h11 h12 h13 h14 h15 h16 hF hp hq hm hn hd
      by_cases hz : d = 0
      · obtain ⟨g1, g2, g3⟩ := f7 hz
        clear f7
        subst hz
        rcases hpq with ⟨h, h7, h8⟩ | ⟨h, h7, h8⟩
        all_goals
          subst h7 h8
          go_enter Try.func8, Try.ntmps8
        all_goals
          go_wp2_with fail
          refine (H1.out _ (HX.out.tbelow _ _ HT.out HW.out)).mono ?_
          rintro e w1 ⟨rfl, hb⟩
          have HW := Lib.hid (bnext HW.out hb)
          clear hb
          go_wp2_with fail
          refine (H2.out _ (HX.out.tbelow _ _ HT.out HW.out)).mono ?_
          rintro e w2 ⟨rfl, hb⟩
          have HW := Lib.hid (bnext HW.out hb)
          clear hb
          go_wp2_with fail
          refine (H3.out _ (HX.out.tbelow _ _ HT.out HW.out)).mono ?_
          rintro e w3 ⟨rfl, hb⟩
          have HW := Lib.hid (bnext HW.out hb)
          clear hb
          go_wp2_with fail
          refine (H4.out _ (HX.out.tbelow _ _ HT.out HW.out)).mono ?_
          rintro e w4 ⟨rfl, hb⟩
          have HW := Lib.hid (bnext HW.out hb)
          clear hb
          go_wp2_with fail
          refine (H5.out _ (HX.out.tbelow _ _ HT.out HW.out)).mono ?_
          rintro e w5 ⟨rfl, hb⟩
          have HW := Lib.hid (bnext HW.out hb)
          clear hb
          go_wp2_with fail
          refine (H6.out _ (HX.out.tbelow _ _ HT.out HW.out)).mono ?_
          rintro e w6 ⟨rfl, hb⟩
          have HW := Lib.hid (bnext HW.out hb)
          clear hb
        all_goals
          go_wp2_with fail
          refine (HK.out _ (HX.out.tbelow _ _ HT.out HW.out)).mono ?_
          rintro e w7 ⟨rfl, hb⟩
          have HW := Lib.hid (bnext HW.out hb)
          clear hb
          go_wp2_with fail
          go_ret
          exact ⟨rfl, HW.out⟩
      · clear f7
        rcases hpq with ⟨h, h7, h8⟩ | ⟨h, h7, h8⟩
        all_goals
          subst h7 h8
          go_enter Try.func8, Try.ntmps8
        all_goals
          go_wp2_with fail
          refine (H1.out _ (HX.out.tbelow _ _ HT.out HW.out)).mono ?_
          rintro e w1 ⟨rfl, hb⟩
          have HW := Lib.hid (bnext HW.out hb)
          clear hb
          go_wp2_with fail
          refine (H2.out _ (HX.out.tbelow _ _ HT.out HW.out)).mono ?_
          rintro e w2 ⟨rfl, hb⟩
          have HW := Lib.hid (bnext HW.out hb)
          clear hb
          go_wp2_with fail
          refine (H3.out _ (HX.out.tbelow _ _ HT.out HW.out)).mono ?_
          rintro e w3 ⟨rfl, hb⟩
          have HW := Lib.hid (bnext HW.out hb)
          clear hb
          go_wp2_with fail
          refine (H4.out _ (HX.out.tbelow _ _ HT.out HW.out)).mono ?_
          rintro e w4 ⟨rfl, hb⟩
          have HW := Lib.hid (bnext HW.out hb)
          clear hb
          go_wp2_with fail
          refine (H5.out _ (HX.out.tbelow _ _ HT.out HW.out)).mono ?_
          rintro e w5 ⟨rfl, hb⟩
          have HW := Lib.hid (bnext HW.out hb)
          clear hb
          go_wp2_with fail
          refine (H6.out _ (HX.out.tbelow _ _ HT.out HW.out)).mono ?_
          rintro e w6 ⟨rfl, hb⟩
          have HW := Lib.hid (bnext HW.out hb)
          clear hb
        all_goals
          go_wp2_with fail
          refine (HK.out _ (HX.out.tbelow _ _ HT.out HW.out)).mono ?_
          rintro e w7 ⟨rfl, hb⟩
          have HW := Lib.hid (bnext HW.out hb)
          clear hb
          go_wp2_with fail
          go_ret
          exact ⟨rfl, HW.out⟩
end Go.Proofs.Ytidgmobnclchkaa.dri
