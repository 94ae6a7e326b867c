/- FieldBack, FieldForth by FApi; what is parsed is short. -/
import Derived.Test.YtfgenbmobfbifaaFldA
namespace Go.Proofs.Ytfgenbmobfbifaa.fld
open Go.RowKit
open Go.Proofs.Ytfgenbmobfbifaa.oct Go.Proofs.Ytfgenbmobfbifaa.ref Go.Proofs.Ytfgenbmobfbifaa.rows
open Go.Lib (byteCells)

theorem unq_len (n : Nat) : ∀ (l m : List UInt8), l.length ≤ n → unq l = some m → m.length ≤ l.length := by
  induction n with
  | zero =>
    intro l m hl h
    have : l = [] := List.eq_nil_of_length_eq_zero (by omega)
    subst this
    rw [unq] at h
    cases h
    simp
  | succ n ih =>
    intro l m hl h
    cases l with
    | nil => rw [unq] at h; cases h; simp
    | cons c r =>
      rw [List.length_cons] at hl ⊢
      by_cases h1 : c.toNat < 33 ∨ 126 < c.toNat
      · rw [unq_bad h1] at h; cases h
      by_cases h2 : c = 37
      · subst h2
        match r, hl, h with
        | [], _, h => rw [unq_pct_end (by simp)] at h; cases h
        | [a], _, h => rw [unq_pct_end (by simp)] at h; cases h
        | a :: b :: r, hl, h =>
          by_cases hw : worth a < 16 ∧ worth b < 16
          · rw [unq_pct hw.1 hw.2] at h
            cases hr : unq r with
            | none => rw [hr] at h; cases h
            | some q =>
              rw [hr] at h
              cases h
              simp only [List.length_cons] at hl ⊢
              have := ih r q (by omega) hr
              omega
          · rw [unq_pct_bad hw] at h; cases h
      · rw [unq_else h1 h2] at h
        cases hr : unq r with
        | none => rw [hr] at h; cases h
        | some q =>
          rw [hr] at h
          cases h
          rw [List.length_cons]
          have := ih r q (by omega) hr
          omega
theorem split_mem_len (l : List UInt8) : ∀ p ∈ splitAmp l, p.length ≤ l.length := by
  induction l with
  | nil => simp [splitAmp]
  | cons c r ih =>
    intro p hp
    rw [splitAmp] at hp
    have hd : ((splitAmp r).headD []).length ≤ r.length := by
      apply ih
      rw [split_head r]
      simp
    split at hp
    · rcases List.mem_cons.1 hp with rfl | h
      · simp
      · have := ih p h; rw [List.length_cons]; omega
    · rcases List.mem_cons.1 hp with rfl | h
      · rw [List.length_cons, List.length_cons]; omega
      · have := ih p (List.mem_of_mem_tail h); rw [List.length_cons]; omega
theorem pairOf_len {p : List UInt8} {x : Pr} (h : pairOf p = some x) : x.1.length ≤ p.length ∧ x.2.length ≤ p.length := by
  unfold pairOf at h
  have h1 : (cutEq p).1.length ≤ p.length := by unfold cutEq; exact List.Sublist.length_le (List.takeWhile_sublist _)
  have h2 : (cutEq p).2.length ≤ p.length := by unfold cutEq; exact Nat.le_trans (List.Sublist.length_le (List.drop_sublist _ _)) (List.Sublist.length_le (List.dropWhile_sublist _))
  cases ha : unq (cutEq p).1 with
  | none => rw [ha] at h; cases h
  | some a =>
    cases hb : unq (cutEq p).2 with
    | none => rw [ha, hb] at h; cases h
    | some b =>
      rw [ha, hb] at h
      cases h
      exact ⟨Nat.le_trans (unq_len _ _ _ (Nat.le_refl _) ha) h1, Nat.le_trans (unq_len _ _ _ (Nat.le_refl _) hb) h2⟩
theorem runP_small (ps : List (List UInt8)) (hp : ∀ p ∈ ps, p.length ≤ 16384) (acc : List Pr) (ha : ∀ x ∈ acc, x.1.length ≤ 16384 ∧ x.2.length ≤ 16384) : ∀ x ∈ (runP ps acc).2, x.1.length ≤ 16384 ∧ x.2.length ≤ 16384 := by
  induction ps generalizing acc with
  | nil => exact ha
  | cons p ps ih =>
    by_cases h : acc.length = 64
    · rw [runP_64 h]; simp
    cases hx : pairOf p with
    | none => rw [runP_none h hx]; simp
    | some y =>
      rw [runP_some h hx]
      refine ih (fun q hq => hp q (List.mem_cons_of_mem _ hq)) _ ?_
      intro x hx2
      rcases List.mem_append.1 hx2 with h3 | h3
      · exact ha x h3
      · obtain rfl := List.mem_singleton.1 h3
        have := pairOf_len hx
        have := hp p (List.mem_cons_self ..)
        omega
theorem parse_small (l : List UInt8) : Small (parse l).2 := by
  intro x hx
  unfold parse at hx
  split at hx
  · simp at hx
  · rename_i h
    have := runP_small (pieces l) (fun p hp => Nat.le_trans (split_mem_len l p (List.mem_filter.1 hp).1) (by omega)) [] (by simp) x hx
    omega
theorem parse_zero_or (l : List UInt8) : (parse l).1 = 0 ∨ parse l = (2, []) ∨ parse l = (3, []) := by
  unfold parse
  split
  · exact Or.inr (Or.inl rfl)
  · by_cases h : (runP (pieces l) []).1 = 0
    · exact Or.inl h
    · obtain ⟨h1, h2⟩ := runP_err _ _ h
      rcases h2 with h2 | h2
      · exact Or.inr (Or.inl (Prod.ext h2 h1))
      · exact Or.inr (Or.inr (Prod.ext h2 h1))
theorem printR_len (ps : List Pr) : (printR ps).2.length ≤ 16384 := by
  unfold printR
  split
  · simp
  · split
    · simp
    · simpa using (by omega : (prt ps).length ≤ 16384)

set_option maxHeartbeats 1000000 in
theorem law_back {T : World → Prop} (X : FApi T) (l : List UInt8) (P : Option Addr) (C : Nat) (ps : List Pr) (w : World) (hl : l.length ≤ 1048576) (hp : InPr w P ps) (hps : ps.length ≤ 1048576) (hc : ps.length ≤ C) (hn : P = none → C = 0) (hs : Small ps) (ht : T w) :
    Calls Try.prog 8 #[.string ⟨l.toArray⟩, .slice P ps.length C] w fun e w' => e = .returned (.bool true) ∧ Below w.heap.size w w' := by
  have HT := Lib.hid ht
  have HX := Lib.hid X
  have HP := Lib.hid hp
  have HS := Lib.hid hs
  have HU : Hid (unqV (unq (quote l)) = .tuple #[.string ⟨l.toArray⟩, .int .i64 0]) := by show _ = _; rw [unq_quote]; rfl
  have HQ := Lib.hid (quote_len l)
  have HPL := Lib.hid (printR_len ps)
  clear ht X hp hs
  by_cases hr : (printR ps).1 = 0
  · have HR : Hid (parse (printR ps).2 = (0, ps)) := parse_print ps hr
    have HR2 : Hid (printR ps = (0, (printR ps).2)) := Prod.ext hr rfl
    obtain ⟨t, htx⟩ : ∃ t, (printR ps).2 = t := ⟨_, rfl⟩
    rw [htx] at HR HR2 HPL
    clear hr htx
    go_enter Try.func8, Try.ntmps8
    go_wp2_with fail
    refine (HX.out.quote l w HT.out hl).mono ?_
    rintro e w1 ⟨rfl, hb1⟩
    go_wp2_with fail
    refine (HX.out.unquote (quote l) w1 (HX.out.tbelow _ _ HT.out hb1) (by have := HQ.out; omega)).mono ?_
    rintro e w2 ⟨rfl, hb2⟩
    rw [HU.out]
    have hbw := bnext hb1 hb2
    clear hb1 hb2
    go_wp2_with fail
    refine (fknown_c HX.out w2 (HX.out.tbelow _ _ HT.out hbw)).mono ?_
    rintro e w3 ⟨rfl, hb3⟩
    have hbw3 := bnext hbw hb3
    clear hbw hb3
    go_wp2_with fail
    refine (HX.out.print P C ps w3 (HX.out.tbelow _ _ HT.out hbw3) (HP.out.below hbw3) (by omega) hc hn (fit_small HS.out)).mono ?_
    rintro e w4 ⟨rfl, hb4⟩
    rw [HR2.out]
    unfold tx
    have hbw4 := bnext hbw3 hb4
    clear hbw3 hb4
    go_wp2_with fail
    refine (HX.out.parse t w4 (HX.out.tbelow _ _ HT.out hbw4) (by have := HPL.out; omega)).mono ?_
    rintro e w5 ⟨v, rfl, hown, hb5⟩
    rw [HR.out] at hown ⊢
    obtain ⟨p, c, rfl, _, _, hin⟩ := own_pairs hown
    have hbw5 := bnext hbw4 hb5
    have HSM := Lib.hid (rsame_eq P C p c ps w5 (HP.out.below hbw5) hin (by omega))
    have HB := Lib.hid hbw5
    clear hown hin hbw4 hb5 hbw5
    go_wp2_with fail
    refine HSM.out.mono ?_
    rintro e w6 ⟨rfl, n, rfl⟩
    go_wp2_with fail
    go_ret
    exact ⟨rfl, below_drewN HB.out n⟩
  · have HR2 : Hid (printR ps = (2, [])) := printR_err ps hr
    clear hr
    go_enter Try.func8, Try.ntmps8
    go_wp2_with fail
    refine (HX.out.quote l w HT.out hl).mono ?_
    rintro e w1 ⟨rfl, hb1⟩
    go_wp2_with fail
    refine (HX.out.unquote (quote l) w1 (HX.out.tbelow _ _ HT.out hb1) (by have := HQ.out; omega)).mono ?_
    rintro e w2 ⟨rfl, hb2⟩
    rw [HU.out]
    have hbw := bnext hb1 hb2
    clear hb1 hb2
    go_wp2_with fail
    refine (fknown_c HX.out w2 (HX.out.tbelow _ _ HT.out hbw)).mono ?_
    rintro e w3 ⟨rfl, hb3⟩
    have hbw3 := bnext hbw hb3
    clear hbw hb3
    go_wp2_with fail
    refine (HX.out.print P C ps w3 (HX.out.tbelow _ _ HT.out hbw3) (HP.out.below hbw3) (by omega) hc hn (fit_small HS.out)).mono ?_
    rintro e w4 ⟨rfl, hb4⟩
    rw [HR2.out]
    unfold tx
    have HB := Lib.hid (bnext hbw3 hb4)
    clear hbw3 hb4
    go_wp2_with fail
    go_ret
    exact ⟨rfl, HB.out⟩

set_option maxHeartbeats 1000000 in
theorem law_forth {T : World → Prop} (X : FApi T) (l : List UInt8) (w : World) (hl : l.length ≤ 140737488351232) (ht : T w) :
    Calls Try.prog 9 #[.string ⟨l.toArray⟩] w fun e w' => e = .returned (.bool true) ∧ Below w.heap.size w w' := by
  have HT := Lib.hid ht
  have HX := Lib.hid X
  have HLL := Lib.hid hl
  clear ht X hl
  by_cases h0 : (parse l).1 = 0
  · have HL : Hid (parse l = (0, (parse l).2)) := Prod.ext h0 rfl
    have HF := Lib.hid (parse_few l)
    have HS := Lib.hid (parse_small l)
    obtain ⟨ps, hps⟩ : ∃ ps, (parse l).2 = ps := ⟨_, rfl⟩
    rw [hps] at HL HF HS
    have HPL := Lib.hid (printR_len ps)
    clear h0 hps
    by_cases hr : (printR ps).1 = 0
    · have HR : Hid (parse (printR ps).2 = (0, ps)) := parse_print ps hr
      have HR2 : Hid (printR ps = (0, (printR ps).2)) := Prod.ext hr rfl
      obtain ⟨t, htx⟩ : ∃ t, (printR ps).2 = t := ⟨_, rfl⟩
      rw [htx] at HR HR2 HPL
      clear hr htx
      go_enter Try.func9, Try.ntmps9
      go_wp2_with fail
      refine (HX.out.parse l w HT.out HLL.out).mono ?_
      rintro e w1 ⟨v, rfl, hown, hb1⟩
      rw [HL.out] at hown ⊢
      obtain ⟨P, C, rfl, hC, hN, hin⟩ := own_pairs hown
      have HP := Lib.hid hin
      have HC := Lib.hid hC
      have HN := Lib.hid hN
      clear hown hin hC hN
      go_wp2_with fail
      refine (fknown_c HX.out w1 (HX.out.tbelow _ _ HT.out hb1)).mono ?_
      rintro e w3 ⟨rfl, hb3⟩
      have HP3 := Lib.hid (HP.out.below hb3)
      have hbw3 := bnext hb1 hb3
      clear hb1 hb3
      go_wp2_with fail
      refine (HX.out.print P C ps w3 (HX.out.tbelow _ _ HT.out hbw3) HP3.out (by have := HF.out; omega) HC.out HN.out (fit_small HS.out)).mono ?_
      rintro e w4 ⟨rfl, hb4⟩
      rw [HR2.out]
      unfold tx
      have HP4 := Lib.hid (HP3.out.below hb4)
      have hbw4 := bnext hbw3 hb4
      clear hbw3 hb4
      go_wp2_with fail
      refine (HX.out.parse t w4 (HX.out.tbelow _ _ HT.out hbw4) (by have := HPL.out; omega)).mono ?_
      rintro e w5 ⟨v, rfl, hown, hb5⟩
      rw [HR.out] at hown ⊢
      obtain ⟨p, c, rfl, _, _, hin⟩ := own_pairs hown
      have hbw5 := bnext hbw4 hb5
      have HSM := Lib.hid (rsame_eq P C p c ps w5 (HP4.out.below hb5) hin (by have := HF.out; omega))
      have HB := Lib.hid hbw5
      clear hown hin hbw4 hb5 hbw5
      go_wp2_with fail
      refine HSM.out.mono ?_
      rintro e w6 ⟨rfl, n, rfl⟩
      go_wp2_with fail
      go_ret
      exact ⟨rfl, below_drewN HB.out n⟩
    · have HR2 : Hid (printR ps = (2, [])) := printR_err ps hr
      clear hr
      go_enter Try.func9, Try.ntmps9
      go_wp2_with fail
      refine (HX.out.parse l w HT.out HLL.out).mono ?_
      rintro e w1 ⟨v, rfl, hown, hb1⟩
      rw [HL.out] at hown ⊢
      obtain ⟨P, C, rfl, hC, hN, hin⟩ := own_pairs hown
      have HP := Lib.hid hin
      have HC := Lib.hid hC
      have HN := Lib.hid hN
      clear hown hin hC hN
      go_wp2_with fail
      refine (fknown_c HX.out w1 (HX.out.tbelow _ _ HT.out hb1)).mono ?_
      rintro e w3 ⟨rfl, hb3⟩
      have HP3 := Lib.hid (HP.out.below hb3)
      have hbw3 := bnext hb1 hb3
      clear hb1 hb3
      go_wp2_with fail
      refine (HX.out.print P C ps w3 (HX.out.tbelow _ _ HT.out hbw3) HP3.out (by have := HF.out; omega) HC.out HN.out (fit_small HS.out)).mono ?_
      rintro e w4 ⟨rfl, hb4⟩
      rw [HR2.out]
      unfold tx
      have HB := Lib.hid (bnext hbw3 hb4)
      clear hbw3 hb4
      go_wp2_with fail
      go_ret
      exact ⟨rfl, HB.out⟩
  · have HZ : ∃ k, (k = 2 ∨ k = 3) ∧ parse l = (k, []) := by
      rcases parse_zero_or l with h | h | h
      · exact absurd h h0
      · exact ⟨2, Or.inl rfl, h⟩
      · exact ⟨3, Or.inr rfl, h⟩
    obtain ⟨k, hk, hz⟩ := HZ
    have HZ := Lib.hid hz
    have HK : Hid (((k : Nat) : Int) ≠ 0) := by show _ ≠ _; omega
    have hk0 : (((k : Nat) : Int) == 0) = false := by rw [beq_eq_false_iff_ne]; exact HK.out
    clear h0 hz hk
    go_enter Try.func9, Try.ntmps9
    go_wp2_with fail
    refine (HX.out.parse l w HT.out HLL.out).mono ?_
    rintro e w1 ⟨v, rfl, hown, hb1⟩
    rw [HZ.out] at hown ⊢
    obtain ⟨P, C, rfl, hC, hN, hin⟩ := own_pairs hown
    clear hown hin hC hN
    dsimp only [List.length_nil]
    go_wp2_with fail
    refine (fknown_c HX.out w1 (HX.out.tbelow _ _ HT.out hb1)).mono ?_
    rintro e w3 ⟨rfl, hb3⟩
    have hbw3 := bnext hb1 hb3
    clear hb1 hb3
    go_wp2_with fail
    refine (fknown_c HX.out w3 (HX.out.tbelow _ _ HT.out hbw3)).mono ?_
    rintro e w4 ⟨rfl, hb4⟩
    have HB := Lib.hid (bnext hbw3 hb4)
    clear hbw3 hb4
    go_wp2_with fail
    go_ret
    exact ⟨rfl, HB.out⟩
end Go.Proofs.Ytfgenbmobfbifaa.fld
