/- DriftPasses by DApi. -/
import Derived.Test.YtidgmobnclchkaaDriL
import Derived.Test.YtidgmobnclchkaaRowG
namespace Go.Proofs.Ytidgmobnclchkaa.dri
open Go.RowKit
open Go.Proofs.Ytidgmobnclchkaa.oct Go.Proofs.Ytidgmobnclchkaa.ref Go.Proofs.Ytidgmobnclchkaa.rows Go.Proofs.Ytidgmobnclchkaa.rowg

/-- a turn of true time, at two rates -/
structure Tw where
  u : Int
  r : Int
  s : Int
def tenc (x : Tw) : List Value := [.int .i64 x.u, .int .i64 x.r, .int .i64 x.s]
theorem tenc_len : ∀ a, (tenc a).length = 3 := fun _ => rfl
structure FitT (x : Tw) : Prop where
  u : I64 x.u
  r : I64 x.r
  s : I64 x.s
/-- one element's cells -/
theorem tw_cells {w : World} {P : Option Addr} {l : List Tw} (h : InG tenc 3 w P l) (i : Nat) (hi : i < l.length) : ∃ b o, P = some ⟨b, o, none⟩ ∧ w.cell? ⟨b, o + i * 3, none⟩ = some (.int .i64 l[i].u) ∧ w.cell? ⟨b, o + i * 3 + 1, none⟩ = some (.int .i64 l[i].r) ∧ w.cell? ⟨b, o + i * 3 + 2, none⟩ = some (.int .i64 l[i].s) := by
  obtain ⟨b, o, e, hc⟩ := InG.cells h i hi
  exact ⟨b, o, e, hc 0 (by decide), hc 1 (by decide), hc 2 (by decide)⟩
theorem turn_64 {c u r : Int} : I64 (turnP c u r).1 := by
  by_cases h : (turnP c u r).2 = 0
  · obtain ⟨h1, h2, h3⟩ := turn_made h
    obtain ⟨a1, a2, a3⟩ := turn_ok h1
    have := turn_mul a1 a2
    rw [h2]
    have e : T40 = 1099511627776 := rfl
    exact ⟨by show _ ≤ c + u * (1000 + r); omega, by show c + u * (1000 + r) ≤ _; omega⟩
  · rw [turn_err h]; decide
theorem passes_key {d c p : Int} (hd : I64 d) (hc : 0 ≤ c ∧ c ≤ 1099511627776000) (hp : Passed d c p) :
    ∃ (R M x z : Int) (ye ze : Nat), readP c = R ∧ 0 ≤ R ∧ I64 M ∧ leastP R d = (x, ye) ∧ mostP M d = (z, ze) ∧
      ((R < 1099511627776 ∧ M = R + 1 ∧ ye = 1 ∧ ze = 1 ∧ d < 0) ∨ (R < 1099511627776 ∧ M = R + 1 ∧ ye = 1 ∧ ze = 1 ∧ (0 ≤ d ∧ 500 < d)) ∨ (R < 1099511627776 ∧ M = R + 1 ∧ ye = 0 ∧ ze = 0 ∧ (0 ≤ d ∧ d ≤ 500) ∧ x ≤ p ∧ p ≤ z) ∨
       (R = 1099511627776 ∧ M = 1099511627776 ∧ ye = 1 ∧ ze = 1 ∧ d < 0) ∨ (R = 1099511627776 ∧ M = 1099511627776 ∧ ye = 1 ∧ ze = 1 ∧ (0 ≤ d ∧ 500 < d)) ∨ (R = 1099511627776 ∧ M = 1099511627776 ∧ ye = 0 ∧ ze = 0 ∧ (0 ≤ d ∧ d ≤ 500) ∧ x ≤ p ∧ p ≤ z) ∨ (R = 1099511627776 ∧ M = 1099511627776 ∧ ye = 0 ∧ ze = 0 ∧ (0 ≤ d ∧ d ≤ 500) ∧ x ≤ p ∧ ¬ p ≤ z)) := by
  have hT : T40 = 1099511627776 := rfl
  have hRd := read_of hc.1
  obtain ⟨R, hR⟩ : ∃ R, readP c = R := ⟨_, rfl⟩
  have hR0 : 0 ≤ R := by omega
  have hR1 : R ≤ 1099511627776 := by omega
  obtain ⟨M, hM⟩ : ∃ M, (R < 1099511627776 ∧ M = R + 1) ∨ (R = 1099511627776 ∧ M = 1099511627776) := by
    by_cases h : R < 1099511627776
    · exact ⟨_, Or.inl ⟨h, rfl⟩⟩
    · exact ⟨_, Or.inr ⟨by omega, rfl⟩⟩
  have hM0 : 0 ≤ M ∧ M ≤ 1099511627776 := by omega
  by_cases h0 : 0 ≤ d ∧ d ≤ 500
  · have k1 := plain_ok (right_iff.2 ⟨⟨hR0, hR1⟩, h0⟩)
    have k2 := plain_ok (right_iff.2 ⟨hM0, h0⟩)
    have k3 := passed_bounds hp h0 hc.1
    rw [hR] at k3
    refine ⟨R, M, _, _, 0, 0, hR, hR0, ⟨by omega, by omega⟩, k1.1, k2.2.1, ?_⟩
    rcases hM with ⟨a, b⟩ | ⟨a, b⟩
    · subst b
      exact Or.inr (Or.inr (Or.inl ⟨a, rfl, rfl, rfl, h0, k3⟩))
    · by_cases h : p ≤ 1000 * M / (1000 - d)
      · exact Or.inr (Or.inr (Or.inr (Or.inr (Or.inr (Or.inl ⟨a, b, rfl, rfl, h0, k3.1, h⟩)))))
      · exact Or.inr (Or.inr (Or.inr (Or.inr (Or.inr (Or.inr ⟨a, b, rfl, rfl, h0, k3.1, h⟩)))))
  · have hbad : ∀ n, rightB n d = false := fun n => by
      cases h : rightB n d with
      | false => rfl
      | true => exact absurd (right_iff.1 h).2 h0
    refine ⟨R, M, 0, 0, 1, 1, hR, hR0, ⟨by omega, by omega⟩, (plain_bad (hbad R)).1, (plain_bad (hbad M)).2.1, ?_⟩
    rcases hM with ⟨a, b⟩ | ⟨a, b⟩
    · by_cases h : d < 0
      · exact Or.inl ⟨a, b, rfl, rfl, h⟩
      · exact Or.inr (Or.inl ⟨a, b, rfl, rfl, by omega, by omega⟩)
    · by_cases h : d < 0
      · exact Or.inr (Or.inr (Or.inr (Or.inl ⟨a, b, rfl, rfl, h⟩)))
      · exact Or.inr (Or.inr (Or.inr (Or.inr (Or.inl ⟨a, b, rfl, rfl, by omega, by omega⟩))))
set_option maxRecDepth 100000 in
set_option maxHeartbeats 4000000 in
theorem law_passes {T' : World → Prop} (X : DApi T') (d : Int) (P : Option Addr) (cp : Nat) (l : List Tw) (w : World) (hd : I64 d) (hP : InG tenc 3 w P l) (hl : l.length ≤ 140737488355328) (hf : ∀ x ∈ l, FitT x) (ht : T' w) :
    Calls Try.prog 7 #[.int .i64 d, .slice P l.length cp] w fun e w' => e = .returned (.bool true) ∧ Below w.heap.size w w' := by
  have HT := Lib.hid ht
  have HX := Lib.hid X
  have HP := Lib.hid hP
  have HF := Lib.hid hf
  have HK := Lib.hid (fun w ht => dknown_c X w ht)
  clear ht X hP hf
  obtain ⟨N, hN⟩ : ∃ N, N = min l.length 200 := ⟨_, rfl⟩
  go_enter Try.func7, Try.ntmps7
  go_wp2_with fail
  go_loopg [6, 7] N (fun g s6 s7 wx => ∃ (k : Nat) (c p : Int), k + g = N ∧ s7 = .int .i64 k ∧ s6 = .int .i64 p ∧ Passed d c p ∧ (0 ≤ c ∧ c ≤ 1099511627776000) ∧ p ≤ (k : Int) * 1099511627776 ∧ Hid (Blk wx w.heap.size 23 [.int .i64 c]) ∧ Hid (Below w.heap.size w wx))
  case atStart => exact ⟨0, 0, 0, by omega, rfl, rfl, passed_start d, by decide, by decide, blk_new w _ _ _ rfl, (Below.refl _ _).alloc (Nat.le_refl _) _⟩
  case round =>
    obtain ⟨k, c, p, hkg, rfl, rfl, hp, hc, hpk, HB, HW⟩ := hrel
    have c5 : wr.cell? ⟨w.heap.size, 0, none⟩ = some (.int .i64 c) := HB.out.cell 0
    rcases gk with _ | g
    · have hRd : readP c = c / 1000 := read_of hc.1
      have hK := passes_key hd hc hp
      obtain ⟨R, M, x, z, ye, ze, hRe, hR0, hM, hL0, hM0, hcs⟩ := hK
      have hR := Lib.hid (fun w ht => HX.out.read c w ht ⟨by omega, by omega⟩)
      rw [hRe] at hR hRd
      have HL := Lib.hid (fun w ht => HX.out.least R d w ht ⟨by omega, by omega⟩ hd)
      have HM := Lib.hid (fun w ht => HX.out.most M d w ht hM hd)
      rw [hL0] at HL
      rw [hM0] at HM
      have hp0 : 0 ≤ p := hp.pos
      have HC1 := Lib.hid (fun w' (h : Below wr.heap.size wr w') => (HB.out.below h).cell 0)
      have hcase : ((k : Int) < (l.length : Int) ∧ ¬ (k : Int) < 200) ∨ ¬ (k : Int) < (l.length : Int) := by omega
      clear hRe hp hRd hL0 hM0 hM
      rcases hcs with ⟨h1, rfl, rfl, rfl, h2⟩ | ⟨h1, rfl, rfl, rfl, h2⟩ | ⟨h1, rfl, rfl, rfl, h2⟩ | ⟨rfl, rfl, rfl, rfl, h2⟩ | ⟨rfl, rfl, rfl, rfl, h2⟩ | ⟨rfl, rfl, rfl, rfl, h2⟩ | ⟨rfl, rfl, rfl, rfl, h2⟩
      all_goals (rcases hcase with ⟨q1, q2⟩ | q1)
      all_goals
        go_wp2_with fail
        refine (hR.out _ (HX.out.tbelow _ _ HT.out HW.out)).mono ?_
        rintro e w1 ⟨rfl, hb⟩
        have HW := Lib.hid (bnext HW.out hb)
        have HZ := Lib.hid hb
        clear hb c5
        go_wp2_with fail
        refine (HL.out _ (HX.out.tbelow _ _ HT.out HW.out)).mono ?_
        rintro e w2 ⟨rfl, hb⟩
        have HW := Lib.hid (bnext HW.out hb)
        have HZ := Lib.hid (bnext HZ.out hb)
        have c5 : w2.cell? ⟨w.heap.size, 0, none⟩ = some (.int .i64 c) := HC1.out w2 HZ.out
        clear hb
        go_wp2_with fail
        refine (hR.out _ (HX.out.tbelow _ _ HT.out HW.out)).mono ?_
        rintro e w3 ⟨rfl, hb⟩
        have HW := Lib.hid (bnext HW.out hb)
        have HZ := Lib.hid (bnext HZ.out hb)
        clear hb c5
        go_wp2_with fail
        refine (HM.out _ (HX.out.tbelow _ _ HT.out HW.out)).mono ?_
        rintro e w4 ⟨rfl, hb⟩
        have HW := Lib.hid (bnext HW.out hb)
        have HZ := Lib.hid (bnext HZ.out hb)
        clear hb
        go_wp2_with fail
        refine (HK.out _ (HX.out.tbelow _ _ HT.out HW.out)).mono ?_
        rintro e w5 ⟨rfl, hb⟩
        have HW := Lib.hid (bnext HW.out hb)
        have HZ := Lib.hid (bnext HZ.out hb)
        have c5 : w5.cell? ⟨w.heap.size, 0, none⟩ = some (.int .i64 c) := HC1.out w5 HZ.out
        clear hb
        go_wp2_with fail
        first
          | (go_ret; exact ⟨rfl, HW.out⟩)
          | (refine (hR.out _ (HX.out.tbelow _ _ HT.out HW.out)).mono ?_
             rintro e w6 ⟨rfl, hb⟩
             have HW := Lib.hid (bnext HW.out hb)
             clear hb c5
             go_wp2_with fail
             go_ret
             exact ⟨rfl, HW.out⟩)
    · have hk1 : k < l.length := by omega
      have hk2 : (k : Int) < (l.length : Int) := by omega
      have hk3 : (k : Int) < 200 := by omega
      obtain ⟨b, o, hPe, c1, c2, c3⟩ := tw_cells (HP.out.below tenc_len (by decide) HW.out) k hk1
      have hfit := HF.out _ (List.getElem_mem hk1)
      obtain ⟨t, htw⟩ : ∃ t, l[k] = t := ⟨_, rfl⟩
      rw [htw] at c1 c2 c3 hfit
      obtain ⟨u, r, s⟩ := t
      have hu := hfit.u
      have hr := hfit.r
      dsimp only at c1 c2 c3 hu hr
      subst hPe
      have H1 := Lib.hid (fun w ht => HX.out.turn c u r w ht ⟨by omega, by omega⟩ hu hr)
      have H2 := Lib.hid (fun w ht => HX.out.within r d w ht hr hd)
      have HP0 := Lib.hid hp
      clear hp htw hfit hu hr
      have HB1 := Lib.hid (blk_old HB.out (.cells #[.int .i64 u, .int .i64 r, .int .i64 s] 40))
      have HT1 := Lib.hid (blk_new wr #[.int .i64 u, .int .i64 r, .int .i64 s] 40 [.int .i64 u, .int .i64 r, .int .i64 s] rfl)
      have HW := Lib.hid (HW.out.alloc HW.out.size (.cells #[.int .i64 u, .int .i64 r, .int .i64 s] 40))
      have d0 : (wr.alloc (.cells #[.int .i64 u, .int .i64 r, .int .i64 s] 40)).cell? ⟨wr.heap.size, 0, none⟩ = some (.int .i64 u) := HT1.out.cell 0
      have d1 : (wr.alloc (.cells #[.int .i64 u, .int .i64 r, .int .i64 s] 40)).cell? ⟨wr.heap.size, 1, none⟩ = some (.int .i64 r) := HT1.out.cell 1
      have d5 : (wr.alloc (.cells #[.int .i64 u, .int .i64 r, .int .i64 s] 40)).cell? ⟨w.heap.size, 0, none⟩ = some (.int .i64 c) := HB1.out.cell 0
      go_wp2_with fail
      refine (H1.out _ (HX.out.tbelow _ _ HT.out HW.out)).mono ?_
      rintro e w1 ⟨rfl, hb⟩
      have HW := Lib.hid (bnext HW.out hb)
      have HB2 := HB1.out.below hb
      have HT2 := HT1.out.below hb
      have hsz : wr.heap.size < w1.heap.size := HT2.lt
      clear hb d0 d1 d5 c1 c2 c3 c5
      obtain ⟨⟨c', e'⟩, he⟩ : ∃ b, turnP c u r = b := ⟨_, rfl⟩
      have HE := Lib.hid he
      rw [he]
      have HB3 := Lib.hid (blk_old HB2 (.cells #[.int .i64 c'] 23))
      have HT3 := Lib.hid (blk_old HT2 (.cells #[.int .i64 c'] 23))
      have HN3 := Lib.hid (blk_new w1 #[.int .i64 c'] 23 [.int .i64 c'] rfl)
      have HW := Lib.hid (HW.out.alloc HW.out.size (.cells #[.int .i64 c'] 23))
      have d1 : (w1.alloc (.cells #[.int .i64 c'] 23)).cell? ⟨wr.heap.size, 1, none⟩ = some (.int .i64 r) := HT3.out.cell 1
      clear HB2 HT2 he
      by_cases h0 : e' = 0
      · subst h0
        have hmade : Hid (turnOk c u r = true ∧ c' = c + u * (1000 + r) ∧ c + u * (1000 + r) ≤ 1000 * T40) := by
          have e := HE.out
          have h := turn_made (c := c) (u := u) (r := r) (by rw [e])
          rw [e] at h
          exact ⟨h.1, congrArg Prod.fst h.2.1, h.2.2⟩
        have hk := turn_ok hmade.out.1
        have hT : T40 = 1099511627776 := rfl
        have hu0 : 0 ≤ u := hk.1.1
        have hu1 : u ≤ 1099511627776 := hk.1.2
        clear hk hT
        go_wp2_with fail
        refine (H2.out _ (HX.out.tbelow _ _ HT.out HW.out)).mono ?_
        rintro e w2 ⟨rfl, hb⟩
        cases hwi : withinB r d with
        | false =>
          have HW := Lib.hid (bnext HW.out hb)
          clear hb d1
          go_wp2_with fail
          refine (HK.out _ (HX.out.tbelow _ _ HT.out HW.out)).mono ?_
          rintro e w3 ⟨rfl, hb⟩
          have HW := Lib.hid (bnext HW.out hb)
          clear hb
          go_wp2_with fail
          go_ret
          exact ⟨rfl, HW.out⟩
        | true =>
          have HB4 := Lib.hid (HB3.out.below hb)
          have HN4 := Lib.hid (HN3.out.below hb)
          have HW := Lib.hid (bnext HW.out hb)
          have d0 : w2.cell? ⟨w1.heap.size, 0, none⟩ = some (.int .i64 c') := HN4.out.cell 0
          have d5 : w2.cell? ⟨w.heap.size, 0, none⟩ = some (.int .i64 c) := HB4.out.cell 0
          have d6 : w2.frozen? ⟨w.heap.size, 0, none⟩ = false := HB4.out.frozen 0
          have HT4 := HT3.out.below hb
          have hne : w.heap.size ≠ wr.heap.size := by have := HB.out.lt; omega
          have d7 : (w2.setCell ⟨w.heap.size, 0, none⟩ (.int .i64 c')).cell? ⟨wr.heap.size, 0, none⟩ = some (.int .i64 u) := (HT4.set_other hne 0 (.int .i64 c')).cell 0
          clear HT4 hne
          have hpn := Lib.hid (passed_turn HP0.out hu0 (within_iff.1 hwi).2.2)
          have hp0 : 0 ≤ p := HP0.out.pos
          clear hb d1
          go_wp2_with fail
          go_roundg g
          case measure => omega
          case rel =>
            refine ⟨k + 1, c', p + u, by omega, by go_num, by go_num, ?_, ?_, by omega, ?_, ?_⟩
            · rw [hmade.out.2.1]; exact hpn.out
            · have h1 := turn_mul (turn_ok hmade.out.1).1 (turn_ok hmade.out.1).2.1
              have h2 := hmade.out.2.1
              have h3 := hmade.out.2.2
              have h4 : T40 = 1099511627776 := rfl
              omega
            · exact HB4.out.set 0 (.int .i64 c')
            · exact HW.out.setCell (Nat.le_refl _) _
      · clear d1
        go_wp2_with fail
        refine (HK.out _ (HX.out.tbelow _ _ HT.out HW.out)).mono ?_
        rintro e w3 ⟨rfl, hb⟩
        have HW := Lib.hid (bnext HW.out hb)
        clear hb
        go_wp2_with fail
        go_ret
        exact ⟨rfl, HW.out⟩
end Go.Proofs.Ytidgmobnclchkaa.dri
