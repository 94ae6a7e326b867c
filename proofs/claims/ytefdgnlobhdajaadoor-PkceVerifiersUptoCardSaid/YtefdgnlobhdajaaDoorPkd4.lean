/- The contracts of the developers' May, Challenge, Check; all that the laws ask of pkce (the_papi). Texts within the reach. -/
import Derived.Test.YtefdgnlobhdajaaDoorPkd1
import Derived.Test.YtefdgnlobhdajaaDoorPkd2
import Derived.Test.YtefdgnlobhdajaaDoorPkd3
namespace Go.Proofs.YtefdgnlobhdajaaDoor.pkc
open Go.RowKit
open Go.Proofs.YtefdgnlobhdajaaDoor.oct Go.Proofs.YtefdgnlobhdajaaDoor.ref Go.Proofs.YtefdgnlobhdajaaDoor.rows Go.Proofs.YtefdgnlobhdajaaDoor.sha

theorem cloneT_c (l : T) (w : World) (hs : l.length ≤ 140737488355328) : Calls Tryd.prog 30 #[txt l] w fun e w' => e = .returned (txt l) ∧ Below w.heap.size w w' :=
  pclone_c ⟨l.toArray⟩ w (by rw [show (⟨l.toArray⟩ : ByteArray).size = l.length from List.size_toArray]; omega)
set_option maxRecDepth 100000 in
set_option maxHeartbeats 4000000 in
theorem may_c (c m : T) (w : World) :
    Calls Tryd.prog 10 #[txt c, txt m] w fun e w' => e = .returned (.bool (mayP c m)) ∧ Below w.heap.size w w' := by
  by_cases hp : m = plainM
  · subst hp
    rw [show mayP c plainM = verB c by unfold mayP; rw [if_pos rfl]]
    have HC := Lib.hid (chosen_plain w)
    have HV := Lib.hid (fun w => pverT_c c w)
    unfold wayP at HC
    unfold txt plainM at *
    go_enter Tryd.func10, Tryd.ntmps10
    go_wp2_with fail
    refine HC.out.mono ?_
    rintro e w1 ⟨rfl, hb1⟩
    have HB := Lib.hid hb1
    clear hb1
    go_wp2_with (go_at_call 8; refine (HV.out _).mono ?_; rintro e w' ⟨rfl, rfl⟩)
    go_ret
    exact ⟨rfl, HB.out.alloc HB.out.size _⟩
  · by_cases hm : m = hashM
    · subst hm
      rw [show mayP c hashM = mayS c by unfold mayP; rw [if_neg hp, decide_eq_true rfl]; rfl]
      have HC := Lib.hid (chosen_hash w)
      have HV := Lib.hid (fun w => isDigest_c c w)
      unfold wayS at HC
      unfold txt hashM at *
      clear hp
      go_enter Tryd.func10, Tryd.ntmps10
      go_wp2_with fail
      refine HC.out.mono ?_
      rintro e w1 ⟨rfl, hb1⟩
      have HB := Lib.hid hb1
      clear hb1
      go_wp2_with (go_at_call 31; refine (HV.out _).mono ?_; rintro e w' ⟨rfl, hb2⟩)
      go_ret
      exact ⟨rfl, bnext (HB.out.alloc HB.out.size _) hb2⟩
    · have HR : Hid (mayP c m = false) := by show _ = _; unfold mayP; rw [if_neg hp, decide_eq_false hm]; rfl
      have HC := Lib.hid (chosen_none m w hp hm)
      unfold wayN at HC
      unfold txt at *
      clear hp hm
      go_enter Tryd.func10, Tryd.ntmps10
      go_wp2_with fail
      refine HC.out.mono ?_
      rintro e w1 ⟨rfl, hb1⟩
      have HB := Lib.hid hb1
      clear hb1
      go_wp2_with fail
      go_ret
      exact ⟨ret_bool HR.out.symm, HB.out.alloc HB.out.size _⟩
set_option maxRecDepth 100000 in
set_option maxHeartbeats 4000000 in
theorem challenge_c (v m : T) (w : World) (ht : Tabs w) :
    Calls Tryd.prog 12 #[txt v, txt m] w fun e w' => e = .returned (.tuple #[txt (chalP v m).2, .int .i64 ((chalP v m).1 : Nat)]) ∧ Below w.heap.size w w' := by
  have HT := Lib.hid ht
  clear ht
  have HV := Lib.hid (fun w => pverT_c v w)
  by_cases hp : m = plainM
  · subst hp
    have HC := Lib.hid (chosen_plain w)
    unfold wayP at HC
    cases hv : verB v with
    | false =>
      rw [chal_bad (Or.inl rfl) hv]
      rw [hv] at HV
      unfold txt plainM at *
      clear hv
      go_enter Tryd.func12, Tryd.ntmps12
      go_wp2_with fail
      refine HC.out.mono ?_
      rintro e w1 ⟨rfl, hb1⟩
      have HB := Lib.hid hb1
      clear hb1
      go_wp2_with (go_at_call 8; refine (HV.out _).mono ?_; rintro e w' ⟨rfl, rfl⟩)
      go_ret2
      exact ⟨rfl, HB.out.alloc HB.out.size _⟩
    | true =>
      have HL := Lib.hid (fun w => cloneT_c v w (by have := (ver_len hv).2; omega))
      rw [chal_plain hv]
      rw [hv] at HV
      unfold txt plainM at *
      clear hv
      go_enter Tryd.func12, Tryd.ntmps12
      go_wp2_with fail
      refine HC.out.mono ?_
      rintro e w1 ⟨rfl, hb1⟩
      have HB := Lib.hid hb1
      clear hb1
      go_wp2_with (first | (go_at_call 8; refine (HV.out _).mono ?_; rintro e w' ⟨rfl, rfl⟩) | (go_at_call 30; refine (HL.out _).mono ?_; rintro e w' ⟨rfl, hb2⟩))
      go_ret2
      exact ⟨rfl, bnext (HB.out.alloc HB.out.size _) hb2⟩
  · by_cases hm : m = hashM
    · subst hm
      clear hp
      have HC := Lib.hid (chosen_hash w)
      unfold wayS at HC
      cases hv : verB v with
      | false =>
        rw [chal_bad (Or.inr rfl) hv]
        rw [hv] at HV
        unfold txt hashM at *
        clear hv
        go_enter Tryd.func12, Tryd.ntmps12
        go_wp2_with fail
        refine HC.out.mono ?_
        rintro e w1 ⟨rfl, hb1⟩
        have HB := Lib.hid hb1
        clear hb1
        go_wp2_with (go_at_call 8; refine (HV.out _).mono ?_; rintro e w' ⟨rfl, rfl⟩)
        go_ret2
        exact ⟨rfl, HB.out.alloc HB.out.size _⟩
      | true =>
        have HL : Hid (∀ w, Tabs w → Calls Tryd.prog 32 #[txt v] w fun e w' => e = .returned (txt (hashT v)) ∧ Below w.heap.size w w') := fun w ht => digest_c v w ht (by have := (ver_len hv).2; omega)
        rw [chal_hash hv]
        rw [hv] at HV
        obtain ⟨X, hX⟩ : ∃ X, hashT v = X := ⟨_, rfl⟩
        rw [hX] at HL ⊢
        unfold txt hashM at *
        clear hv hX
        go_enter Tryd.func12, Tryd.ntmps12
        go_wp2_with fail
        refine HC.out.mono ?_
        rintro e w1 ⟨rfl, hb1⟩
        have HB := Lib.hid hb1
        clear hb1
        go_wp2_with (first | (go_at_call 8; refine (HV.out _).mono ?_; rintro e w' ⟨rfl, rfl⟩) | (go_at_call 32; refine (HL.out _ (HT.out.below (HB.out.alloc HB.out.size _))).mono ?_; rintro e w' ⟨rfl, hb2⟩))
        go_ret2
        exact ⟨rfl, bnext (HB.out.alloc HB.out.size _) hb2⟩
    · have HC := Lib.hid (chosen_none m w hp hm)
      unfold wayN at HC
      rw [chal_none hp hm]
      unfold txt at *
      clear hp hm
      go_enter Tryd.func12, Tryd.ntmps12
      go_wp2_with fail
      refine HC.out.mono ?_
      rintro e w1 ⟨rfl, hb1⟩
      have HB := Lib.hid hb1
      clear hb1
      go_wp2_with fail
      go_ret2
      exact ⟨rfl, HB.out.alloc HB.out.size _⟩
set_option maxRecDepth 100000 in
set_option maxHeartbeats 4000000 in
theorem check_c (c m v : T) (w : World) (ht : Tabs w) :
    Calls Tryd.prog 14 #[txt c, txt m, txt v] w fun e w' => e = .returned (.bool (checkP c m v)) ∧ Below w.heap.size w w' := by
  have HC := Lib.hid (challenge_c v m w ht)
  have HP : Hid (checkP c m v = (decide ((chalP v m).1 = 0) && decide ((chalP v m).2 = c))) := rfl
  have hcl := chal_len v m
  obtain ⟨q, hq⟩ : ∃ q, (chalP v m).1 = q := ⟨_, rfl⟩
  obtain ⟨X, hX⟩ : ∃ X, (chalP v m).2 = X := ⟨_, rfl⟩
  obtain ⟨r, hr⟩ : ∃ r, checkP c m v = r := ⟨_, rfl⟩
  rw [hq, hX] at HC HP
  rw [hX] at hcl
  rw [hr] at HP ⊢
  have HR1 := Lib.hid (fun w => conv_row X w)
  have HR2 := Lib.hid (fun w => conv_row c w)
  have HS := Lib.hid (fun p q cp cq w hp hq => oct.same_c p q cp cq X c w hp hq (by omega))
  unfold txt at *
  clear hq hX hr ht
  by_cases h0 : q = 0
  · subst h0
    have HT : Hid (r = decide (X = c)) := by show _ = _; rw [HP.out]; rfl
    clear HP
    go_enter Tryd.func14, Tryd.ntmps14
    go_wp2_with fail
    refine HC.out.mono ?_
    rintro e w1 ⟨rfl, hb1⟩
    obtain ⟨W1, c1, hc1, h81, hk1, hbw1⟩ := HR1.out w1
    obtain ⟨W2, c2, hc2, h82, hk2, hbw2⟩ := HR2.out W1
    have HB := Lib.hid (bnext (bnext hb1 hbw1) hbw2)
    have HQ := Lib.hid (HS.out _ _ c1 c2 W2 (h81.below hbw2) h82)
    clear hb1 hbw1 hbw2 h81 h82 hk1 hk2
    go_wp2_with (go_at_call 21; refine HQ.out.mono ?_; rintro e w' ⟨rfl, rfl⟩)
    go_ret
    exact ⟨ret_bool HT.out.symm, HB.out⟩
  · have HT : Hid (r = false) := by show _ = _; rw [HP.out, decide_eq_false h0]; rfl
    have hb : ((q : Int) == 0) = false := by rw [beq_eq_false_iff_ne]; omega
    clear h0 HP
    go_enter Tryd.func14, Tryd.ntmps14
    go_wp2_with fail
    refine HC.out.mono ?_
    rintro e w1 ⟨rfl, hb1⟩
    have HB := Lib.hid hb1
    clear hb1
    go_wp2_with fail
    go_ret
    exact ⟨ret_bool HT.out.symm, HB.out⟩
theorem the_papi : PApi Tabs where
  tbelow := fun _ _ ht hb => ht.below hb
  isv := fun l w _ _ => (pverT_c l w).mono fun _ _ h => ⟨h.1, h.2 ▸ Below.refl _ _⟩
  may := fun c m w _ _ _ => may_c c m w
  chal := fun v m w ht _ _ => challenge_c v m w ht
  check := fun c m v w ht _ _ _ => check_c c m v w ht
end Go.Proofs.YtefdgnlobhdajaaDoor.pkc
