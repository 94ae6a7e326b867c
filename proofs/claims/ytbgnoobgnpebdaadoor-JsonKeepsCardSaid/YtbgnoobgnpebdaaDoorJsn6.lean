/- The contract of the reference's Print. Rows of any length, whose texts are within the reach. -/
import Derived.Test.YtbgnoobgnpebdaaDoorJsn5
namespace Go.Proofs.YtbgnoobgnpebdaaDoor.jsn
open Go.RowKit
open Go.Proofs.YtbgnoobgnpebdaaDoor.oct Go.Proofs.YtbgnoobgnpebdaaDoor.ref Go.Proofs.YtbgnoobgnpebdaaDoor.rows Go.Proofs.YtbgnoobgnpebdaaDoor.rowg
open Go.Lib (byteCells)

abbrev InM (w : World) (P : Option Addr) (ms : List Mem) : Prop := InG menc 5 w P ms
/-- names and texts within the reach, numbers ints -/
def FitM (ms : List Mem) : Prop := ∀ m ∈ ms, m.name.length ≤ 140737488351232 ∧ m.text.length ≤ 140737488351232 ∧ i64 m
theorem inm_below {w w' : World} {P : Option Addr} {ms : List Mem} (h : InM w P ms) (hb : Below w.heap.size w w') : InM w' P ms := InG.below menc_len (by decide) h hb
theorem mem_cells {w : World} {P : Option Addr} {ms : List Mem} (h : InM w P ms) (i : Nat) (hi : i < ms.length) : ∃ b o, P = some ⟨b, o, none⟩ ∧ w.cell? ⟨b, o + i * 5, none⟩ = some (.string ⟨(ms[i]).name.toArray⟩) ∧ w.cell? ⟨b, o + i * 5 + 1, none⟩ = some (.int .i64 (ms[i]).kind) ∧ w.cell? ⟨b, o + i * 5 + 2, none⟩ = some (.string ⟨(ms[i]).text.toArray⟩) ∧ w.cell? ⟨b, o + i * 5 + 3, none⟩ = some (.int .i64 (ms[i]).n) ∧ w.cell? ⟨b, o + i * 5 + 4, none⟩ = some (.bool (ms[i]).b) := by
  obtain ⟨b, o, e, hc⟩ := InG.cells h i hi
  exact ⟨b, o, e, hc 0 (by decide), hc 1 (by decide), hc 2 (by decide), hc 3 (by decide), hc 4 (by decide)⟩
theorem okM_snoc (l : List Mem) (m : Mem) : okM (l ++ [m]) = (okM l && inForm m && !(l.any fun x => m.name == x.name)) := by
  induction l with
  | nil => simp [okM]
  | cons a l ih =>
    rw [List.cons_append, okM, okM, ih, List.any_append, List.any_cons]
    simp only [List.any_cons, List.any_nil, Bool.or_false, Bool.not_or]
    cases inForm a <;> cases (l.any fun x => x.name == a.name) <;> cases okM l <;> cases inForm m <;> cases (m.name == a.name) <;> cases (l.any fun x => m.name == x.name) <;> rfl
theorem okM_take (l : List Mem) (k : Nat) (h : okM (l.take k) = false) : okM l = false := by
  have e : l = l.take k ++ l.drop k := (List.take_append_drop k l).symm
  rw [e]
  generalize l.drop k = r
  induction r generalizing k with
  | nil => simpa using h
  | cons a r ih =>
    have h2 : ∀ (r l : List Mem), okM l = false → okM (l ++ r) = false := by
      intro r
      induction r with
      | nil => intro l hl; simpa using hl
      | cons a r ih => intro l hl; rw [show l ++ a :: r = (l ++ [a]) ++ r by simp]; exact ih _ (by rw [okM_snoc, hl]; rfl)
    exact h2 _ _ h
theorem memsT_snoc (l : List Mem) (m : Mem) : memsT (l ++ [m]) = if l.isEmpty then memT m else memsT l ++ 44 :: memT m := by
  induction l with
  | nil => rfl
  | cons a l ih =>
    rw [List.cons_append, memsT, memsT]
    by_cases h : l.isEmpty = true
    · obtain rfl : l = [] := by simpa using h
      rfl
    · have h1 : (l ++ [m]).isEmpty = false := by cases l <;> simp_all
      rw [h1, if_neg (by decide), if_neg h, ih, if_neg h]
      simp
theorem memsT_take (l : List Mem) (k : Nat) : (memsT (l.take k)).length ≤ (memsT l).length := by
  have e : l = l.take k ++ l.drop k := (List.take_append_drop k l).symm
  have h2 : ∀ (r l : List Mem), (memsT l).length ≤ (memsT (l ++ r)).length := by
    intro r
    induction r with
    | nil => intro l; simp
    | cons a r ih =>
      intro l
      rw [show l ++ a :: r = (l ++ [a]) ++ r by simp]
      refine Nat.le_trans ?_ (ih (l ++ [a]))
      rw [memsT_snoc]
      by_cases h : l.isEmpty = true
      · obtain rfl : l = [] := by simpa using h
        simp [memsT]
      · rw [if_neg h, List.length_append]; omega
  have := h2 (l.drop k) (l.take k)
  rwa [← e] at this
set_option maxRecDepth 100000 in
set_option maxHeartbeats 4000000 in
theorem rprint_c (P : Option Addr) (C : Nat) (ms : List Mem) (w : World) (hp : InM w P ms) (hf : FitM ms) (hl : ms.length ≤ 140737488355328) :
    Calls Tryd.prog 11 #[.slice P ms.length C] w fun e w' => e = .returned (.tuple #[tx (printJ ms).2, .int .i64 ((printJ ms).1 : Nat)]) ∧ Below w.heap.size w w' := by
  by_cases h64 : 64 < ms.length
  · have hI : (ms.length : Int) > 64 := by omega
    have HR : Hid (printJ ms = (2, [])) := by show _ = _; unfold printJ; rw [if_pos h64]
    clear h64 hp hf
    go_enter Tryd.func11, Tryd.ntmps11
    go_wp2_with fail
    go_ret2
    exact ⟨by rw [HR.out]; rfl, Below.refl _ _⟩
  · have hI : ¬ ((ms.length : Int) > 64) := by omega
    have HP := Lib.hid hp
    have HF := Lib.hid hf
    have HNO : Hid (okM ms = false → printJ ms = (3, [])) := fun h => by unfold printJ; rw [if_neg h64, if_neg (by rw [h]; decide)]
    have HOK : Hid (okM ms = true → printJ ms = if 16384 < (objT ms).length then (2, []) else (0, objT ms)) := fun h => by unfold printJ; rw [if_neg h64, if_pos h]
    clear hp hf
    obtain ⟨N, hN⟩ : ∃ N, ms.length = N := ⟨_, rfl⟩
    rw [hN] at hI h64 ⊢
    have HN := Lib.hid hN
    clear hN hl
    go_enter Tryd.func11, Tryd.ntmps11
    go_wp2_with fail
    go_loopg [4, 5] N (fun g s4 s5 wy => ∃ k : Nat, k + g = N ∧ s4 = .int .i64 k ∧ Hid (okM (ms.take k) = true) ∧ Below w.heap.size w wy)
    case atStart => exact ⟨0, by omega, rfl, rfl, Below.refl _ _⟩
    case round =>
      obtain ⟨k, hkg, rfl, HO, hbx⟩ := hrel
      rcases gk with _ | g
      · obtain rfl : k = N := by omega
        have e : ms.take k = ms := List.take_of_length_le (by rw [HN.out]; exact Nat.le_refl _)
        have HOM : Hid (okM ms = true) := by rw [← e]; exact HO.out
        have HPV := Lib.hid (HOK.out HOM.out)
        have HBX := Lib.hid hbx
        clear e HO hbx HNO HOK HOM
        have HLN : Hid (16384 < (objT ms).length → printJ ms = (2, [])) := fun h => by rw [HPV.out, if_pos h]
        have HLO : Hid ((objT ms).length ≤ 16384 → printJ ms = (0, objT ms)) := fun h => by rw [HPV.out, if_neg (by omega)]
        clear HPV
        go_wp2_with fail
        go_loopg [6, 7] k (fun g s6 s7 wz => ∃ j : Nat, j + g = k ∧ s7 = .int .i64 j ∧ s6 = .string ⟨(123 :: memsT (ms.take j)).toArray⟩ ∧ (123 :: memsT (ms.take j)).length < 16384 ∧ Below w.heap.size w wz)
        case atStart => exact ⟨0, by omega, rfl, rfl, by simp [memsT], HBX.out⟩
        case round =>
          obtain ⟨j, hjg, rfl, rfl, hcl, hbj⟩ := hrel
          have HBJ := Lib.hid hbj
          rcases gk with _ | g
          · obtain rfl : j = k := by omega
            have e : ms.take j = ms := List.take_of_length_le (by rw [HN.out]; exact Nat.le_refl _)
            rw [e] at hcl ⊢
            have ho : (objT ms).length = (123 :: memsT ms).length + 1 := by unfold objT; simp
            have HPV := Lib.hid (HLO.out (by rw [ho]; omega))
            have HOV : Hid ((⟨(123 :: memsT ms).toArray⟩ : ByteArray) ++ ⟨#[125]⟩ = ⟨(objT ms).toArray⟩) := by show _ = _; unfold objT; ext1; simp
            have z1 : (⟨(123 :: memsT ms).toArray⟩ : ByteArray).size = (123 :: memsT ms).length := size_mk _
            obtain ⟨Z, hZ⟩ : ∃ Z, 123 :: memsT ms = Z := ⟨_, rfl⟩
            rw [hZ] at z1 HOV hcl ⊢
            clear e hbj ho hZ
            go_wp2_with fail
            go_ret2
            exact ⟨by rw [HPV.out, HOV.out]; rfl, HBJ.out⟩
          · have hj : j < k := by omega
            have hjp : j < ms.length := by rw [HN.out]; omega
            obtain ⟨b, o, rfl, c0, c1, c2, c3, c4⟩ := mem_cells (inm_below HP.out hbj) j hjp
            have HFJ := Lib.hid (HF.out _ (List.getElem_mem hjp))
            have HT := Lib.hid (show ms.take (j + 1) = ms.take j ++ [ms[j]] from List.take_succ_eq_append_getElem hjp)
            have HSN := Lib.hid (memsT_snoc (ms.take j) ms[j])
            have HTK := Lib.hid (memsT_take ms (j + 1))
            have HE : Hid ((ms.take j).isEmpty = decide (j = 0)) := by
              show _ = _
              rcases j with _ | j
              · simp
              · rw [decide_eq_false (by omega)]
                cases ms with
                | nil => simp at hjp
                | cons a l => rfl
            obtain ⟨m, hm⟩ : ∃ m, ms[j] = m := ⟨_, rfl⟩
            rw [hm] at c0 c1 c2 c3 c4 HSN HT HFJ
            have HMC := Lib.hid (member_c m wr HFJ.out.1 HFJ.out.2.1 HFJ.out.2.2)
            unfold mv tx at HMC
            rw [← HT.out] at HSN
            have hjI : (j : Int) < (k : Int) := by omega
            obtain ⟨Z, hZ⟩ : ∃ Z, 123 :: memsT (ms.take j) = Z := ⟨_, rfl⟩
            have HZ0 : Hid (j = 0 → Z = [123]) := fun h => by rw [← hZ, h]; simp [memsT]
            have HSN2 : Hid (123 :: memsT (ms.take (j + 1)) = if j = 0 then [123] ++ memT m else Z ++ ([44] ++ memT m)) := by
              show _ = _
              rw [HSN.out, HE.out, ← hZ]
              by_cases h0 : j = 0
              · simp [h0]
              · simp [h0]
            rw [hZ] at hcl ⊢
            have z1 : (⟨Z.toArray⟩ : ByteArray).size = Z.length := size_mk _
            clear hm hZ HSN hbj
            by_cases h0 : j = 0
            · obtain rfl : Z = [123] := HZ0.out h0
              have h0I : ¬ ((j : Int) > 0) := by omega
              rw [if_pos h0] at HSN2
              clear h0
              go_wp2_with fail
              refine HMC.out.mono ?_
              rintro e w1 ⟨R, hR, rfl, hb1⟩
              have HB1 := Lib.hid (bnext HBJ.out hb1)
              have hN2 := ((Near.same [123]).append hR)
              have HV : Hid ((⟨#[123]⟩ : ByteArray) ++ ⟨R.toArray⟩ = ⟨([123] ++ R).toArray⟩) := by show _ = _; ext1; simp
              obtain ⟨X, hX⟩ : ∃ X, [123] ++ R = X := ⟨_, rfl⟩
              rw [hX] at hN2 HV
              have z2 : (⟨R.toArray⟩ : ByteArray).size = R.length := size_mk _
              have z3 : X.length = 1 + R.length := by rw [← hX, List.length_append]; rfl
              have hRl := hR.1
              have HN2 := Lib.hid hN2
              clear hb1 c0 c1 c2 c3 c4 hN2 hX hR
              by_cases hlong : 16384 ≤ 1 + R.length
              · have hI2 : (1 : Int) + (R.length : Int) ≥ 16384 := by omega
                have HPV := Lib.hid (HLN.out (by
                  have h1 := HTK.out
                  have h2 := congrArg List.length HSN2.out
                  have h3 : (objT ms).length = (memsT ms).length + 2 := by unfold objT; simp
                  have h4 : 16384 ≤ ([123] ++ memT m).length := by
                    rcases HN2.out.2 with h | ⟨_, h⟩
                    · rw [← h]; omega
                    · omega
                  rw [List.length_cons] at h2
                  omega))
                go_wp2_with fail
                go_ret2
                exact ⟨by rw [HPV.out]; rfl, HB1.out⟩
              · have hI2 : ¬ ((1 : Int) + (R.length : Int) ≥ 16384) := by omega
                have HXE : Hid (X = 123 :: memsT (ms.take (j + 1))) := by
                  show _ = _
                  rw [HSN2.out]
                  rcases HN2.out.2 with h | ⟨h, _⟩
                  · exact h
                  · omega
                go_wp2_with fail
                go_roundg g
                case measure => omega
                case rel => exact ⟨j + 1, by omega, by go_num, by rw [HV.out, HXE.out], by rw [← HXE.out]; omega, HB1.out⟩
            · have h0I : (j : Int) > 0 := by omega
              rw [if_neg h0] at HSN2
              clear h0 HZ0
              go_wp2_with fail
              refine HMC.out.mono ?_
              rintro e w1 ⟨R, hR, rfl, hb1⟩
              have HB1 := Lib.hid (bnext HBJ.out hb1)
              have hN2 := ((Near.same Z).append ((Near.same [44]).append hR))
              have HV : Hid (((⟨Z.toArray⟩ : ByteArray) ++ ⟨#[44]⟩) ++ ⟨R.toArray⟩ = ⟨(Z ++ ([44] ++ R)).toArray⟩) := by show _ = _; ext1; simp
              obtain ⟨X, hX⟩ : ∃ X, Z ++ ([44] ++ R) = X := ⟨_, rfl⟩
              rw [hX] at hN2 HV
              have z2 : (⟨R.toArray⟩ : ByteArray).size = R.length := size_mk _
              have z3 : X.length = Z.length + 1 + R.length := by rw [← hX]; simp; omega
              have hRl := hR.1
              have HN2 := Lib.hid hN2
              clear hb1 c0 c1 c2 c3 c4 hN2 hX hR
              by_cases hlong : 16384 ≤ Z.length + 1 + R.length
              · have hI2 : (Z.length : Int) + 1 + (R.length : Int) ≥ 16384 := by omega
                have HPV := Lib.hid (HLN.out (by
                  have h1 := HTK.out
                  have h2 := congrArg List.length HSN2.out
                  have h3 : (objT ms).length = (memsT ms).length + 2 := by unfold objT; simp
                  have h4 : 16384 ≤ (Z ++ ([44] ++ memT m)).length := by
                    rcases HN2.out.2 with h | ⟨_, h⟩
                    · rw [← h]; omega
                    · omega
                  rw [List.length_cons] at h2
                  omega))
                go_wp2_with fail
                go_ret2
                exact ⟨by rw [HPV.out]; rfl, HB1.out⟩
              · have hI2 : ¬ ((Z.length : Int) + 1 + (R.length : Int) ≥ 16384) := by omega
                have HXE : Hid (X = 123 :: memsT (ms.take (j + 1))) := by
                  show _ = _
                  rw [HSN2.out]
                  rcases HN2.out.2 with h | ⟨h, _⟩
                  · exact h
                  · omega
                go_wp2_with fail
                go_roundg g
                case measure => omega
                case rel => exact ⟨j + 1, by omega, by go_num, by rw [HV.out, HXE.out], by rw [← HXE.out]; omega, HB1.out⟩
      · have hk : k < N := by omega
        have hkp : k < ms.length := by rw [HN.out]; exact hk
        have hP := inm_below HP.out hbx
        obtain ⟨b, o, rfl, c0, c1, c2, c3, c4⟩ := mem_cells hP k hkp
        have HT := Lib.hid (show ms.take (k + 1) = ms.take k ++ [ms[k]] from List.take_succ_eq_append_getElem hkp)
        have HSN := Lib.hid (okM_snoc (ms.take k) ms[k])
        obtain ⟨m, hm⟩ : ∃ m, ms[k] = m := ⟨_, rfl⟩
        rw [hm] at c0 c1 c2 c3 c4 HSN HT
        have HM := Lib.hid hm
        have HFC := Lib.hid (form_c m wr)
        unfold mv tx at HFC
        have hkI : (k : Int) < (N : Int) := by omega
        have HPX := Lib.hid hP
        have HBX := Lib.hid hbx
        clear hP hm hbx
        cases hfm : inForm m with
        | false =>
          rw [hfm] at HFC
          have HPV : Hid (printJ ms = (3, [])) := HNO.out (okM_take ms (k + 1) (by rw [HT.out, HSN.out, hfm]; simp))
          clear hfm
          go_wp2_with (go_at_call 27; refine HFC.out.mono ?_; rintro e w1 ⟨rfl, hb1⟩; have HB1 := Lib.hid (bnext HBX.out hb1); clear hb1)
          go_ret2
          exact ⟨by rw [HPV.out]; rfl, HB1.out⟩
        | true =>
          rw [hfm] at HFC
          have HSN2 : Hid (okM (ms.take (k + 1)) = !((ms.take k).any fun x => m.name == x.name)) := by show _ = _; rw [HT.out, HSN.out, hfm, HO.out]; rfl
          clear hfm HSN HO
          go_wp2_with (go_at_call 27; refine HFC.out.mono ?_; rintro e w1 ⟨rfl, hb1⟩; have HP1 := Lib.hid (inm_below HPX.out hb1); have HB1 := Lib.hid (bnext HBX.out hb1); clear hb1)
          clear c0 c1 c2 c3 c4 HFC HPX HBX
          go_loopg [5] k (fun g s5 wz => ∃ j : Nat, j + g = k ∧ s5 = .int .i64 j ∧ Hid ((ms.take j).any (fun x => m.name == x.name) = false) ∧ Hid (InM wz (some ⟨b, o, none⟩) ms) ∧ Below w.heap.size w wz)
          case atStart => exact ⟨0, by omega, rfl, rfl, HP1.out, HB1.out⟩
          case round =>
            obtain ⟨j, hjg, rfl, HA, HPJ, hbj⟩ := hrel
            have HBJ := Lib.hid hbj
            clear hbj
            rcases gk with _ | g2
            · obtain rfl : j = k := by omega
              have HON : Hid (okM (ms.take (j + 1)) = true) := by show _ = _; rw [HSN2.out, HA.out]; rfl
              go_wp2_with fail
              go_roundg g
              case measure => omega
              case rel => exact ⟨j + 1, by omega, by go_num, HON, HBJ.out⟩
            · have hj : j < k := by omega
              have hjp : j < ms.length := by rw [HN.out]; omega
              obtain ⟨b', o', hE, d0, _, _, _, _⟩ := mem_cells HPJ.out j hjp
              cases hE
              obtain ⟨b', o', hE, e0, _, _, _, _⟩ := mem_cells HPJ.out k hkp
              cases hE
              rw [HM.out] at e0
              have HTJ := Lib.hid (show ms.take (j + 1) = ms.take j ++ [ms[j]] from List.take_succ_eq_append_getElem hjp)
              obtain ⟨m2, hm2⟩ : ∃ m2, ms[j] = m2 := ⟨_, rfl⟩
              rw [hm2] at d0 HTJ
              obtain ⟨x1, hx1⟩ : ∃ x, m2.name = x := ⟨_, rfl⟩
              obtain ⟨x2, hx2⟩ : ∃ x, m.name = x := ⟨_, rfl⟩
              rw [hx1] at d0
              rw [hx2] at e0
              have HM2 := Lib.hid hm2
              have HX1 := Lib.hid hx1
              have HX2 := Lib.hid hx2
              have hjI : (j : Int) < (k : Int) := by omega
              have hjN : (j : Int) < (N : Int) := by omega
              clear hm2 hx1 hx2
              by_cases he : x1 = x2
              · have hb1 : (x1 == x2) = true := by simp [he]
                have HPV : Hid (printJ ms = (3, [])) := HNO.out (okM_take ms (k + 1) (by
                  rw [HSN2.out]
                  have : (ms.take k).any (fun x => m.name == x.name) = true := by
                    rw [List.any_eq_true]
                    refine ⟨ms[j], ?_, ?_⟩
                    · exact List.mem_take_iff_getElem.2 ⟨j, by omega, rfl⟩
                    · rw [HM2.out, HX1.out, HX2.out, he]; simp
                  rw [this]; rfl))
                clear he
                go_wp2_with fail
                go_quiet (fail)
                go_wp2_with fail
                go_ret2
                exact ⟨by rw [HPV.out]; rfl, below_drewN HBJ.out _⟩
              · have hb1 : (x1 == x2) = false := by simpa using he
                have HA2 : Hid ((ms.take (j + 1)).any (fun x => m.name == x.name) = false) := by
                  show _ = _
                  rw [HTJ.out, List.any_append, HA.out, List.any_cons, List.any_nil, HX1.out, HX2.out]
                  simpa using fun e => he e.symm
                clear he
                go_wp2_with fail
                go_quiet (fail)
                go_wp2_with fail
                go_roundg g2
                case measure => omega
                case rel => exact ⟨j + 1, by omega, by go_num, HA2, HPJ.out, below_drewN HBJ.out _⟩
end Go.Proofs.YtbgnoobgnpebdaaDoor.jsn
