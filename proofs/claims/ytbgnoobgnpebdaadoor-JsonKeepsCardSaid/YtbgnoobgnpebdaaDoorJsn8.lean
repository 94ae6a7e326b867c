/- The contract of the reference's value: the member of a name whose value begins at a place. Texts of at most 16384 bytes. -/
import Derived.Test.YtbgnoobgnpebdaaDoorJsn7
namespace Go.Proofs.YtbgnoobgnpebdaaDoor.jsn
open Go.RowKit
open Go.Proofs.YtbgnoobgnpebdaaDoor.oct Go.Proofs.YtbgnoobgnpebdaaDoor.ref Go.Proofs.YtbgnoobgnpebdaaDoor.rows
open Go.Lib (byteCells)

theorem infoMem : (Tryd.prog.info? 38).map (·.size) = some 5 := by kernel_rfl
/-- a result that lies in a variable of several cells, and one that lies in a slot -/
theorem results_rowtmp {P : Program} {fn : Func} {p q : Tmp} {ty : TypeId} (h : fn.results = #[.cell p ty, .tmp q]) (tmps : Array Value) (w : World) (g : Nat) (t : TypeId) (X : List Value) (u : Value) {d : TypeDesc}
    (hp : tmps.getD p undef = .pointer (some ⟨g, 0, none⟩)) (hq : tmps.getD q undef = u) (hB : Blk w g t X) (hu : P.underlying ty = some d) (hd : (match d with | .struct _ | .array _ _ => true | _ => false) = true) (hi : (P.info? ty).map (·.size) = some X.length) :
    (results fn tmps).run P w = .ok (.tuple #[.agg X.toArray, u]) w := by
  have hp' : tmps[p]?.getD undef = .pointer (some ⟨g, 0, none⟩) := by simpa using hp
  have hq' : tmps[q]?.getD undef = u := by simpa using hq
  have hl := run_loadVar_row (P := P) w g t ty X.toArray (0, 0) d hB hu hd (by simpa using hi)
  simp [results, h, hp', hq', asAddr, hl]
/-- what value answers -/
def ValV (n : Nat) (nm l : List UInt8) (w w' : World) (e : Ending) : Prop := ∃ m0 : Mem, ∃ z : Int, e = .returned (.tuple #[mv m0, .int .i64 z]) ∧ (∀ y, valueP nm l = some y → m0 = y.1 ∧ z = ((n - y.2.length : Nat) : Int)) ∧ (valueP nm l = none → z = -1) ∧ Below w.heap.size w w'
theorem text_extract (s : ByteArray) (a b : Nat) : (s.extract a b).data.toList = (s.data.toList.drop a).take (b - a) := by
  rw [Lib.extract_data]
theorem bytes_list (b : ByteArray) : b.toList = b.data.toList := Lib.toList_data b
theorem str_l (s : ByteArray) (at0 : Nat) (l : List UInt8) (hl : s.data.toList.drop at0 = l) (w : World) (hs : s.size ≤ 16384) (ha : at0 ≤ 16400) :
    Calls Tryd.prog 31 #[.string s, .int .i64 at0] w fun e w' => e = .returned (strV s.size l) ∧ Below w.heap.size w w' := by
  subst hl; exact str_c s at0 w hs ha
set_option maxRecDepth 100000 in
set_option maxHeartbeats 40000000 in
theorem value_c (nm : List UInt8) (s : ByteArray) (at0 : Nat) (w : World) (hs : s.size ≤ 16384) (ha : at0 ≤ 16400) :
    Calls Tryd.prog 32 #[tx nm, .string s, .int .i64 at0] w fun e w' => ValV s.size nm (s.data.toList.drop at0) w w' e := by
  have HSL : Hid (s.data.toList.length = s.size) := by show _ = _; rw [Array.length_toList]; rfl
  have HSTR := Lib.hid (fun w => str_c s at0 w hs ha)
  obtain ⟨l, hl⟩ : ∃ l, s.data.toList.drop at0 = l := ⟨_, rfl⟩
  have HL := Lib.hid hl
  rw [hl] at HSTR ⊢
  clear hl
  unfold tx
  have HX4 : Hid ((s.extract at0 (at0 + 4)).toList = l.take 4) := by show _ = _; rw [bytes_list, text_extract, HL.out, show at0 + 4 - at0 = 4 by omega]
  have HX5 : Hid ((s.extract at0 (at0 + 5)).toList = l.take 5) := by show _ = _; rw [bytes_list, text_extract, HL.out, show at0 + 5 - at0 = 5 by omega]
  by_cases hlt : at0 < s.size
  · have hltI : (at0 : Int) < (s.size : Int) := by omega
    have hd := drop_text s at0 hlt
    rw [HL.out] at hd
    obtain ⟨c, hc⟩ : ∃ c, s[at0] = c := ⟨_, rfl⟩
    rw [hc] at hd
    have hcc : (s[at0].toNat : Int) = (c.toNat : Int) := by rw [hc]
    have hcl := c.toNat_lt
    have HD := Lib.hid hd
    clear hd hc
    by_cases h34 : c = 34
    · have hb34 : ((c.toNat : Int) == 34) = true := by rw [h34]; rfl
      have HV : Hid (valueP nm l = (strP l.tail).map fun y => (⟨nm, 0, y.1, 0, false⟩, y.2)) := by
        show _ = _
        unfold valueP
        rw [if_pos (by rw [HD.out, h34]; rfl)]
      have HST : Hid (strV s.size l = match strP l.tail with | some y => .tuple #[tx y.1, .int .i64 ((s.size - y.2.length : Nat) : Int)] | none => .tuple #[tx [], .int .i64 (-1)]) := by
        show _ = _
        rw [HD.out, strV, if_pos h34]
        rfl
      rw [HST.out] at HSTR
      have hE : Blk (w.alloc (.cells #[.string ⟨#[]⟩, .int .i64 0, .string ⟨#[]⟩, .int .i64 0, .bool false] 38)) w.heap.size 38 [.string ⟨#[]⟩, .int .i64 0, .string ⟨#[]⟩, .int .i64 0, .bool false] := blk_new w _ _ _ rfl
      have hb0 := (Below.refl w.heap.size w).alloc (Nat.le_refl _) (.cells #[.string ⟨#[]⟩, .int .i64 0, .string ⟨#[]⟩, .int .i64 0, .bool false] 38)
      have HE := Lib.hid hE
      have HB0 := Lib.hid hb0
      clear h34 hE hb0
      cases hsp : strP l.tail with
      | none =>
        rw [hsp] at HSTR HV
        unfold tx at HSTR
        clear hsp HST
        go_enter Tryd.func32, Tryd.ntmps32
        go_wp2_with fail
        refine (HSTR.out _).mono ?_
        rintro e w2 ⟨rfl, hb2⟩
        have hE2 := HE.out.below hb2
        have HBW := Lib.hid (bnext HB0.out hb2)
        have c0 := hE2.cell 0
        have c1 := hE2.cell 1
        have c2 := hE2.cell 2
        have c3 := hE2.cell 3
        have c4 := hE2.cell 4
        have f0 := hE2.frozen 0
        have f1 := hE2.frozen 1
        have f2 := hE2.frozen 2
        have f3 := hE2.frozen 3
        have f4 := hE2.frozen 4
        have HE2 := Lib.hid hE2
        clear hE2 hb2
        go_wp2_with fail
        clear c0 c1 c2 c3 c4 f0 f1 f2 f3 f4
        have hF := ((((HE2.out.set 0 (tx nm)).set 1 (.int .i64 0)).set 2 (tx [])).set 3 (.int .i64 0)).set 4 (.bool false)
        have hBF := ((((HBW.out.setCell (p := ⟨w.heap.size, 0, none⟩) (Nat.le_refl _) (tx nm)).setCell (p := ⟨w.heap.size, 1, none⟩) (Nat.le_refl _) (.int .i64 0)).setCell (p := ⟨w.heap.size, 2, none⟩) (Nat.le_refl _) (tx [])).setCell (p := ⟨w.heap.size, 3, none⟩) (Nat.le_refl _) (.int .i64 0)).setCell (p := ⟨w.heap.size, 4, none⟩) (Nat.le_refl _) (.bool false)
        refine bodyPost_ret (v := .tuple #[.agg ([tx nm, .int .i64 0, tx [], .int .i64 0, .bool false] : List Value).toArray, .int .i64 (-1)]) (results_rowtmp Tryd.results32 _ _ w.heap.size 38 ([tx nm, .int .i64 0, tx [], .int .i64 0, .bool false]) _ rfl rfl (hF) Tryd.underlying38 rfl infoMem) rfl ⟨⟨nm, 0, [], 0, false⟩, -1, rfl, (fun y hy => by rw [HV.out] at hy; cases hy), (fun _ => rfl), hBF⟩
      | some y =>
        obtain ⟨t, r2⟩ := y
        rw [hsp] at HSTR HV
        unfold tx at HSTR
        dsimp only at HSTR
        clear hsp HST
        go_enter Tryd.func32, Tryd.ntmps32
        go_wp2_with fail
        refine (HSTR.out _).mono ?_
        rintro e w2 ⟨rfl, hb2⟩
        have hE2 := HE.out.below hb2
        have HBW := Lib.hid (bnext HB0.out hb2)
        have c0 := hE2.cell 0
        have c1 := hE2.cell 1
        have c2 := hE2.cell 2
        have c3 := hE2.cell 3
        have c4 := hE2.cell 4
        have f0 := hE2.frozen 0
        have f1 := hE2.frozen 1
        have f2 := hE2.frozen 2
        have f3 := hE2.frozen 3
        have f4 := hE2.frozen 4
        have HE2 := Lib.hid hE2
        clear hE2 hb2
        go_wp2_with fail
        clear c0 c1 c2 c3 c4 f0 f1 f2 f3 f4
        have hF := ((((HE2.out.set 0 (tx nm)).set 1 (.int .i64 0)).set 2 (tx t)).set 3 (.int .i64 0)).set 4 (.bool false)
        have hBF := ((((HBW.out.setCell (p := ⟨w.heap.size, 0, none⟩) (Nat.le_refl _) (tx nm)).setCell (p := ⟨w.heap.size, 1, none⟩) (Nat.le_refl _) (.int .i64 0)).setCell (p := ⟨w.heap.size, 2, none⟩) (Nat.le_refl _) (tx t)).setCell (p := ⟨w.heap.size, 3, none⟩) (Nat.le_refl _) (.int .i64 0)).setCell (p := ⟨w.heap.size, 4, none⟩) (Nat.le_refl _) (.bool false)
        refine bodyPost_ret (v := .tuple #[.agg ([tx nm, .int .i64 0, tx t, .int .i64 0, .bool false] : List Value).toArray, .int .i64 (((s.size - r2.length : Nat) : Int))]) (results_rowtmp Tryd.results32 _ _ w.heap.size 38 ([tx nm, .int .i64 0, tx t, .int .i64 0, .bool false]) _ rfl rfl (hF) Tryd.underlying38 rfl infoMem) rfl ⟨⟨nm, 0, t, 0, false⟩, ((s.size - r2.length : Nat) : Int), rfl, (fun y hy => by rw [HV.out] at hy; cases hy; exact ⟨rfl, rfl⟩), (fun hy => by rw [HV.out] at hy; cases hy), hBF⟩
    · have hb34 : ((c.toNat : Int) == 34) = false := ne_byte h34
      have hh34 : ¬ (l.head? = some 34) := by rw [HD.out]; simpa using h34
      by_cases htr : l.take 4 = [116, 114, 117, 101]
      · have hlen : at0 + 4 ≤ s.size := by
          have h1 := congrArg List.length htr
          have h2 := congrArg List.length HL.out
          rw [List.length_drop, HSL.out] at h2
          rw [List.length_take] at h1
          simp only [List.length_cons, List.length_nil] at h1
          omega
        have i4 : (at0 : Int) + 4 ≤ (s.size : Int) := by omega
        have e4 : ((s.extract at0 (at0 + 4)).toList == [116, 114, 117, 101]) = true := by rw [HX4.out, htr]; rfl
        have HV : Hid (valueP nm l = some (⟨nm, 2, [], 0, true⟩, l.drop 4)) := by
          show _ = _
          unfold valueP
          rw [if_neg hh34, if_pos htr]
        have HZ : Hid ((at0 : Int) + 4 = ((s.size - (l.drop 4).length : Nat) : Int)) := by
          show _ = _
          rw [← HL.out, List.drop_drop, List.length_drop, HSL.out]; omega
        clear htr h34 hh34
        go_enter Tryd.func32, Tryd.ntmps32
        go_wp2_with fail
        refine bodyPost_ret (v := .tuple #[.agg ([.string ⟨nm.toArray⟩, .int .i64 2, .string ⟨#[]⟩, .int .i64 0, .bool true] : List Value).toArray, .int .i64 ((at0 : Int) + 4)]) (results_rowtmp Tryd.results32 _ _ w.heap.size 38 ([.string ⟨nm.toArray⟩, .int .i64 2, .string ⟨#[]⟩, .int .i64 0, .bool true]) _ rfl rfl (blk_new w _ _ _ rfl) Tryd.underlying38 rfl infoMem) rfl ⟨⟨nm, 2, [], 0, true⟩, (at0 : Int) + 4, rfl, (fun y hy => by rw [HV.out] at hy; cases hy; exact ⟨rfl, HZ.out⟩), (fun hy => by rw [HV.out] at hy; cases hy), (Below.refl _ _).alloc (Nat.le_refl _) _⟩
      · have e4 : ((s.extract at0 (at0 + 4)).toList == [116, 114, 117, 101]) = false := by rw [HX4.out]; simpa using htr
        by_cases hfa : l.take 5 = [102, 97, 108, 115, 101]
        · have hlen : at0 + 5 ≤ s.size := by
            have h1 := congrArg List.length hfa
            have h2 := congrArg List.length HL.out
            rw [List.length_drop, HSL.out] at h2
            rw [List.length_take] at h1
            simp only [List.length_cons, List.length_nil] at h1
            omega
          have i4 : (at0 : Int) + 4 ≤ (s.size : Int) := by omega
          have i5 : (at0 : Int) + 5 ≤ (s.size : Int) := by omega
          have e5 : ((s.extract at0 (at0 + 5)).toList == [102, 97, 108, 115, 101]) = true := by rw [HX5.out, hfa]; rfl
          have HV : Hid (valueP nm l = some (⟨nm, 2, [], 0, false⟩, l.drop 5)) := by
            show _ = _
            unfold valueP
            rw [if_neg hh34, if_neg htr, if_pos hfa]
          have HZ : Hid ((at0 : Int) + 5 = ((s.size - (l.drop 5).length : Nat) : Int)) := by
            show _ = _
            rw [← HL.out, List.drop_drop, List.length_drop, HSL.out]; omega
          clear htr h34 hh34 hfa
          go_enter Tryd.func32, Tryd.ntmps32
          go_wp2_with fail
          refine bodyPost_ret (v := .tuple #[.agg ([.string ⟨nm.toArray⟩, .int .i64 2, .string ⟨#[]⟩, .int .i64 0, .bool false] : List Value).toArray, .int .i64 ((at0 : Int) + 5)]) (results_rowtmp Tryd.results32 _ _ w.heap.size 38 ([.string ⟨nm.toArray⟩, .int .i64 2, .string ⟨#[]⟩, .int .i64 0, .bool false]) _ rfl rfl (blk_new w _ _ _ rfl) Tryd.underlying38 rfl infoMem) rfl ⟨⟨nm, 2, [], 0, false⟩, (at0 : Int) + 5, rfl, (fun y hy => by rw [HV.out] at hy; cases hy; exact ⟨rfl, HZ.out⟩), (fun hy => by rw [HV.out] at hy; cases hy), (Below.refl _ _).alloc (Nat.le_refl _) _⟩
        · have e5 : ((s.extract at0 (at0 + 5)).toList == [102, 97, 108, 115, 101]) = false := by rw [HX5.out]; simpa using hfa
          by_cases h45 : c = 45
          · have hb45 : ((c.toNat : Int) == 45) = true := by rw [h45]; rfl
            obtain ⟨D, hD⟩ : ∃ D, digP 19 0 (s.data.toList.drop (at0 + 1)) = D := ⟨_, rfl⟩
            have HV : Hid (valueP nm l = if D.2.length = (s.data.toList.drop (at0 + 1)).length then none else some (⟨nm, 1, [], D.1, false⟩, D.2)) := by
              show _ = _
              unfold valueP
              rw [if_neg hh34, if_neg htr, if_neg hfa]
              have hbl : decide (l.head? = some 45) = true := by rw [HD.out]; simpa using h45
              have hr : l.tail = s.data.toList.drop (at0 + 1) := by rw [HD.out]; rfl
              simp only [hbl, if_true, hr, hD]
            have HD0 := Lib.hid hD
            clear htr h34 hh34 hfa h45 hD
            have hcase : (at0 + 5 ≤ s.size) ∨ (at0 + 4 ≤ s.size ∧ ¬ at0 + 5 ≤ s.size) ∨ (¬ at0 + 4 ≤ s.size ∧ ¬ at0 + 5 ≤ s.size) := by omega
            rcases hcase with h5 | ⟨h4, h5⟩ | ⟨h4, h5⟩
            all_goals
              (first | (have i4 : (at0 : Int) + 4 ≤ (s.size : Int) := by omega) | (have i4 : ¬ ((at0 : Int) + 4 ≤ (s.size : Int)) := by omega))
              (first | (have i5 : (at0 : Int) + 5 ≤ (s.size : Int) := by omega) | (have i5 : ¬ ((at0 : Int) + 5 ≤ (s.size : Int)) := by omega))
              clear h5
              go_enter Tryd.func32, Tryd.ntmps32
              go_wp2_with fail
              clear e4 e5 i4 i5
              go_loopg [10, 11] 19 (fun g s10 s11 wx => ∃ (j : Nat) (n : Int), j + g = at0 + 1 + 19 ∧ at0 + 1 ≤ j ∧ j ≤ s.size ∧ s11 = .int .i64 j ∧ s10 = .int .i64 n ∧ Hid (D = digP g n (s.data.toList.drop j)) ∧ wx = w.alloc (.cells #[.string ⟨#[]⟩, .int .i64 0, .string ⟨#[]⟩, .int .i64 0, .bool false] 38))
              case atStart => exact ⟨at0 + 1, 0, by omega, Nat.le_refl _, by omega, by go_num, rfl, HD0.out.symm, rfl⟩
              case round =>
                obtain ⟨j, n, hjg, hFj, hjs, rfl, rfl, HDJ, rfl⟩ := hrel
                by_cases hgo : j < s.size ∧ (∃ h : j < s.size, isD s[j] = true) ∧ 0 < gk
                · obtain ⟨hj, ⟨_, hdg⟩, hg0⟩ := hgo
                  have HT := Lib.hid (drop_text s j hj)
                  obtain ⟨x, hx⟩ : ∃ x, s[j] = x := ⟨_, rfl⟩
                  rw [hx] at HT hdg
                  have hxx : (s[j].toNat : Int) = (x.toNat : Int) := by rw [hx]
                  have hdg2 := (isD_iff x).1 hdg
                  obtain ⟨g, rfl⟩ : ∃ g, gk = g + 1 := ⟨gk - 1, by omega⟩
                  have HN : Hid (D = digP g (w64 (w64 (10 * n) - ((x.toNat : Int) - 48))) (s.data.toList.drop (j + 1))) := by
                    show _ = _
                    rw [HDJ.out, HT.out, digP, if_pos hdg]
                  have j1 : (j : Int) < (s.size : Int) := by omega
                  have j2 : (x.toNat : Int) > 47 := by omega
                  have j3 : (x.toNat : Int) < 58 := by omega
                  have j4 : (j : Int) < (at0 : Int) + 1 + 19 := by omega
                  clear HT HDJ hx hdg
                  go_wp2_with fail
                  go_roundg g
                  case measure => omega
                  case rel => exact ⟨j + 1, w64 (w64 (10 * n) - ((x.toNat : Int) - 48)), by omega, by omega, by omega, by go_num, by unfold w64; rw [IntWalk.i64_left, IntWalk.i64_left], HN.out, rfl⟩
                · have HE : Hid (D = (n, s.data.toList.drop j)) := by
                    show _ = _
                    rw [HDJ.out]
                    rcases gk with _ | g
                    · rfl
                    · refine digP_stop _ _ _ (fun x r' hx => ?_)
                      by_cases hj : j < s.size
                      · rw [drop_text s j hj] at hx
                        cases hx
                        cases hq : isD s[j] with
                        | false => rfl
                        | true => exact absurd ⟨hj, ⟨hj, hq⟩, Nat.succ_pos _⟩ hgo
                      · rw [List.drop_of_length_le (by rw [HSL.out]; omega)] at hx
                        cases hx
                  have HLE : Hid ((D.2.length = (s.data.toList.drop (at0 + 1)).length) ↔ j = at0 + 1) := by
                    show _ ↔ _
                    rw [HE.out, List.length_drop, List.length_drop, HSL.out]; omega
                  have HZ : Hid ((j : Int) = ((s.size - D.2.length : Nat) : Int)) := by
                    show _ = _
                    rw [HE.out, List.length_drop, HSL.out]; omega
                  have HD1 : Hid (D.1 = n) := by show _ = _; rw [HE.out]
                  have hway : (¬ j < s.size) ∨ (j < s.size ∧ (∃ h : j < s.size, s[j].toNat ≤ 47)) ∨ (j < s.size ∧ (∃ h : j < s.size, 47 < s[j].toNat ∧ 58 ≤ s[j].toNat)) ∨ (j < s.size ∧ (∃ h : j < s.size, 47 < s[j].toNat ∧ s[j].toNat < 58) ∧ ¬ (j < at0 + 1 + 19)) := by
                    by_cases hj : j < s.size
                    · right
                      by_cases h1 : s[j].toNat ≤ 47
                      · exact Or.inl ⟨hj, hj, h1⟩
                      · by_cases h2 : 58 ≤ s[j].toNat
                        · exact Or.inr (Or.inl ⟨hj, hj, by omega, h2⟩)
                        · refine Or.inr (Or.inr ⟨hj, ⟨hj, by omega, by omega⟩, fun h3 => hgo ⟨hj, ⟨hj, (isD_iff _).2 ⟨by omega, by omega⟩⟩, by omega⟩⟩)
                    · exact Or.inl hj
                  by_cases hjF : j = at0 + 1
                  · have HVN : Hid (valueP nm l = none) := by show _ = _; rw [HV.out, if_pos (HLE.out.2 hjF)]
                    have hjI : ((j : Int) == (at0 : Int) + 1) = true := by rw [beq_iff_eq]; omega
                    clear hgo HE HLE HZ HD1 HDJ
                    rcases hway with h1 | ⟨h1, _, h2⟩ | ⟨h1, _, h2, h3⟩ | ⟨h1, ⟨_, h2, h3⟩, h4⟩
                    all_goals
                      first
                      | (exfalso; omega)
                      | (clear hjF
                         (first | (have j1 : (j : Int) < (s.size : Int) := by omega) | (have j1 : ¬ ((j : Int) < (s.size : Int)) := by omega))
                         (try (have j2 : ¬ ((s[j].toNat : Int) > 47) := by omega))
                         (try (have j2 : (s[j].toNat : Int) > 47 := by omega))
                         (try (have j3 : ¬ ((s[j].toNat : Int) < 58) := by omega))
                         (try (have j3 : (s[j].toNat : Int) < 58 := by omega))
                         (try (have j4 : ¬ ((j : Int) < (at0 : Int) + 1 + 19) := by omega))
                         go_wp2_with fail
                         refine bodyPost_ret (v := .tuple #[.agg ([.string ⟨#[]⟩, .int .i64 0, .string ⟨#[]⟩, .int .i64 0, .bool false] : List Value).toArray, .int .i64 (-1)]) ?_ ?_ ?_
                         · exact results_rowtmp Tryd.results32 _ _ w.heap.size 38 [.string ⟨#[]⟩, .int .i64 0, .string ⟨#[]⟩, .int .i64 0, .bool false] _ rfl rfl (blk_new w _ _ _ rfl) Tryd.underlying38 rfl infoMem
                         · rfl
                         · exact ⟨⟨[], 0, [], 0, false⟩, -1, rfl, (fun y hy => by rw [HVN.out] at hy; cases hy), (fun _ => rfl), (Below.refl _ _).alloc (Nat.le_refl _) _⟩)
                  · have HVN : Hid (valueP nm l = some (⟨nm, 1, [], n, false⟩, D.2)) := by show _ = _; rw [HV.out, if_neg (fun h => hjF (HLE.out.1 h)), HD1.out]
                    have hjI : ((j : Int) == (at0 : Int) + 1) = false := by rw [beq_eq_false_iff_ne]; omega
                    clear hgo HE HLE HD1 HDJ
                    rcases hway with h1 | ⟨h1, _, h2⟩ | ⟨h1, _, h2, h3⟩ | ⟨h1, ⟨_, h2, h3⟩, h4⟩
                    all_goals
                      first
                      | (exfalso; omega)
                      | (clear hjF
                         (first | (have j1 : (j : Int) < (s.size : Int) := by omega) | (have j1 : ¬ ((j : Int) < (s.size : Int)) := by omega))
                         (try (have j2 : ¬ ((s[j].toNat : Int) > 47) := by omega))
                         (try (have j2 : (s[j].toNat : Int) > 47 := by omega))
                         (try (have j3 : ¬ ((s[j].toNat : Int) < 58) := by omega))
                         (try (have j3 : (s[j].toNat : Int) < 58 := by omega))
                         (try (have j4 : ¬ ((j : Int) < (at0 : Int) + 1 + 19) := by omega))
                         go_wp2_with fail
                         refine bodyPost_ret (v := .tuple #[.agg ([.string ⟨nm.toArray⟩, .int .i64 1, .string ⟨#[]⟩, .int .i64 (n), .bool false] : List Value).toArray, .int .i64 (j : Int)]) ?_ ?_ ?_
                         · exact results_rowtmp Tryd.results32 _ _ w.heap.size 38 [.string ⟨nm.toArray⟩, .int .i64 1, .string ⟨#[]⟩, .int .i64 (n), .bool false] _ rfl rfl (blk_new w _ _ _ rfl) Tryd.underlying38 rfl infoMem
                         · rfl
                         · exact ⟨⟨nm, 1, [], n, false⟩, (j : Int), rfl, (fun y hy => by rw [HVN.out] at hy; cases hy; exact ⟨rfl, HZ.out⟩), (fun hy => by rw [HVN.out] at hy; cases hy), (Below.refl _ _).alloc (Nat.le_refl _) _⟩)
          · have hb45 : ((c.toNat : Int) == 45) = false := ne_byte h45
            obtain ⟨D, hD⟩ : ∃ D, digP 19 0 (s.data.toList.drop (at0)) = D := ⟨_, rfl⟩
            have HV : Hid (valueP nm l = if D.2.length = (s.data.toList.drop (at0)).length then none else some (⟨nm, 1, [], w64 (-D.1), false⟩, D.2)) := by
              show _ = _
              unfold valueP
              rw [if_neg hh34, if_neg htr, if_neg hfa]
              have hbl : decide (l.head? = some 45) = false := by rw [HD.out]; simpa using h45
              have hr : l = s.data.toList.drop (at0) := by rw [HL.out]
              rw [hbl]; simp only [Bool.false_eq_true, if_false]; rw [hr, hD]
            have HD0 := Lib.hid hD
            clear htr h34 hh34 hfa h45 hD
            have hcase : (at0 + 5 ≤ s.size) ∨ (at0 + 4 ≤ s.size ∧ ¬ at0 + 5 ≤ s.size) ∨ (¬ at0 + 4 ≤ s.size ∧ ¬ at0 + 5 ≤ s.size) := by omega
            rcases hcase with h5 | ⟨h4, h5⟩ | ⟨h4, h5⟩
            all_goals
              (first | (have i4 : (at0 : Int) + 4 ≤ (s.size : Int) := by omega) | (have i4 : ¬ ((at0 : Int) + 4 ≤ (s.size : Int)) := by omega))
              (first | (have i5 : (at0 : Int) + 5 ≤ (s.size : Int) := by omega) | (have i5 : ¬ ((at0 : Int) + 5 ≤ (s.size : Int)) := by omega))
              clear h5
              go_enter Tryd.func32, Tryd.ntmps32
              go_wp2_with fail
              clear e4 e5 i4 i5
              go_loopg [10, 11] 19 (fun g s10 s11 wx => ∃ (j : Nat) (n : Int), j + g = at0 + 19 ∧ at0 ≤ j ∧ j ≤ s.size ∧ s11 = .int .i64 j ∧ s10 = .int .i64 n ∧ Hid (D = digP g n (s.data.toList.drop j)) ∧ wx = w.alloc (.cells #[.string ⟨#[]⟩, .int .i64 0, .string ⟨#[]⟩, .int .i64 0, .bool false] 38))
              case atStart => exact ⟨at0, 0, by omega, Nat.le_refl _, by omega, by go_num, rfl, HD0.out.symm, rfl⟩
              case round =>
                obtain ⟨j, n, hjg, hFj, hjs, rfl, rfl, HDJ, rfl⟩ := hrel
                by_cases hgo : j < s.size ∧ (∃ h : j < s.size, isD s[j] = true) ∧ 0 < gk
                · obtain ⟨hj, ⟨_, hdg⟩, hg0⟩ := hgo
                  have HT := Lib.hid (drop_text s j hj)
                  obtain ⟨x, hx⟩ : ∃ x, s[j] = x := ⟨_, rfl⟩
                  rw [hx] at HT hdg
                  have hxx : (s[j].toNat : Int) = (x.toNat : Int) := by rw [hx]
                  have hdg2 := (isD_iff x).1 hdg
                  obtain ⟨g, rfl⟩ : ∃ g, gk = g + 1 := ⟨gk - 1, by omega⟩
                  have HN : Hid (D = digP g (w64 (w64 (10 * n) - ((x.toNat : Int) - 48))) (s.data.toList.drop (j + 1))) := by
                    show _ = _
                    rw [HDJ.out, HT.out, digP, if_pos hdg]
                  have j1 : (j : Int) < (s.size : Int) := by omega
                  have j2 : (x.toNat : Int) > 47 := by omega
                  have j3 : (x.toNat : Int) < 58 := by omega
                  have j4 : (j : Int) < (at0 : Int) + 19 := by omega
                  clear HT HDJ hx hdg
                  go_wp2_with fail
                  go_roundg g
                  case measure => omega
                  case rel => exact ⟨j + 1, w64 (w64 (10 * n) - ((x.toNat : Int) - 48)), by omega, by omega, by omega, by go_num, by unfold w64; rw [IntWalk.i64_left, IntWalk.i64_left], HN.out, rfl⟩
                · have HE : Hid (D = (n, s.data.toList.drop j)) := by
                    show _ = _
                    rw [HDJ.out]
                    rcases gk with _ | g
                    · rfl
                    · refine digP_stop _ _ _ (fun x r' hx => ?_)
                      by_cases hj : j < s.size
                      · rw [drop_text s j hj] at hx
                        cases hx
                        cases hq : isD s[j] with
                        | false => rfl
                        | true => exact absurd ⟨hj, ⟨hj, hq⟩, Nat.succ_pos _⟩ hgo
                      · rw [List.drop_of_length_le (by rw [HSL.out]; omega)] at hx
                        cases hx
                  have HLE : Hid ((D.2.length = (s.data.toList.drop (at0)).length) ↔ j = at0) := by
                    show _ ↔ _
                    rw [HE.out, List.length_drop, List.length_drop, HSL.out]; omega
                  have HZ : Hid ((j : Int) = ((s.size - D.2.length : Nat) : Int)) := by
                    show _ = _
                    rw [HE.out, List.length_drop, HSL.out]; omega
                  have HD1 : Hid (D.1 = n) := by show _ = _; rw [HE.out]
                  have hway : (¬ j < s.size) ∨ (j < s.size ∧ (∃ h : j < s.size, s[j].toNat ≤ 47)) ∨ (j < s.size ∧ (∃ h : j < s.size, 47 < s[j].toNat ∧ 58 ≤ s[j].toNat)) ∨ (j < s.size ∧ (∃ h : j < s.size, 47 < s[j].toNat ∧ s[j].toNat < 58) ∧ ¬ (j < at0 + 19)) := by
                    by_cases hj : j < s.size
                    · right
                      by_cases h1 : s[j].toNat ≤ 47
                      · exact Or.inl ⟨hj, hj, h1⟩
                      · by_cases h2 : 58 ≤ s[j].toNat
                        · exact Or.inr (Or.inl ⟨hj, hj, by omega, h2⟩)
                        · refine Or.inr (Or.inr ⟨hj, ⟨hj, by omega, by omega⟩, fun h3 => hgo ⟨hj, ⟨hj, (isD_iff _).2 ⟨by omega, by omega⟩⟩, by omega⟩⟩)
                    · exact Or.inl hj
                  by_cases hjF : j = at0
                  · have HVN : Hid (valueP nm l = none) := by show _ = _; rw [HV.out, if_pos (HLE.out.2 hjF)]
                    have hjI : ((j : Int) == (at0 : Int)) = true := by rw [beq_iff_eq]; omega
                    clear hgo HE HLE HZ HD1 HDJ
                    rcases hway with h1 | ⟨h1, _, h2⟩ | ⟨h1, _, h2, h3⟩ | ⟨h1, ⟨_, h2, h3⟩, h4⟩
                    all_goals
                      first
                      | (exfalso; omega)
                      | (clear hjF
                         (first | (have j1 : (j : Int) < (s.size : Int) := by omega) | (have j1 : ¬ ((j : Int) < (s.size : Int)) := by omega))
                         (try (have j2 : ¬ ((s[j].toNat : Int) > 47) := by omega))
                         (try (have j2 : (s[j].toNat : Int) > 47 := by omega))
                         (try (have j3 : ¬ ((s[j].toNat : Int) < 58) := by omega))
                         (try (have j3 : (s[j].toNat : Int) < 58 := by omega))
                         (try (have j4 : ¬ ((j : Int) < (at0 : Int) + 19) := by omega))
                         go_wp2_with fail
                         refine bodyPost_ret (v := .tuple #[.agg ([.string ⟨#[]⟩, .int .i64 0, .string ⟨#[]⟩, .int .i64 0, .bool false] : List Value).toArray, .int .i64 (-1)]) ?_ ?_ ?_
                         · exact results_rowtmp Tryd.results32 _ _ w.heap.size 38 [.string ⟨#[]⟩, .int .i64 0, .string ⟨#[]⟩, .int .i64 0, .bool false] _ rfl rfl (blk_new w _ _ _ rfl) Tryd.underlying38 rfl infoMem
                         · rfl
                         · exact ⟨⟨[], 0, [], 0, false⟩, -1, rfl, (fun y hy => by rw [HVN.out] at hy; cases hy), (fun _ => rfl), (Below.refl _ _).alloc (Nat.le_refl _) _⟩)
                  · have HVN : Hid (valueP nm l = some (⟨nm, 1, [], w64 (-n), false⟩, D.2)) := by show _ = _; rw [HV.out, if_neg (fun h => hjF (HLE.out.1 h)), HD1.out]
                    have hjI : ((j : Int) == (at0 : Int)) = false := by rw [beq_eq_false_iff_ne]; omega
                    clear hgo HE HLE HD1 HDJ
                    rcases hway with h1 | ⟨h1, _, h2⟩ | ⟨h1, _, h2, h3⟩ | ⟨h1, ⟨_, h2, h3⟩, h4⟩
                    all_goals
                      first
                      | (exfalso; omega)
                      | (clear hjF
                         (first | (have j1 : (j : Int) < (s.size : Int) := by omega) | (have j1 : ¬ ((j : Int) < (s.size : Int)) := by omega))
                         (try (have j2 : ¬ ((s[j].toNat : Int) > 47) := by omega))
                         (try (have j2 : (s[j].toNat : Int) > 47 := by omega))
                         (try (have j3 : ¬ ((s[j].toNat : Int) < 58) := by omega))
                         (try (have j3 : (s[j].toNat : Int) < 58 := by omega))
                         (try (have j4 : ¬ ((j : Int) < (at0 : Int) + 19) := by omega))
                         go_wp2_with fail
                         refine bodyPost_ret (v := .tuple #[.agg ([.string ⟨nm.toArray⟩, .int .i64 1, .string ⟨#[]⟩, .int .i64 (wrap64 (-n)), .bool false] : List Value).toArray, .int .i64 (j : Int)]) ?_ ?_ ?_
                         · exact results_rowtmp Tryd.results32 _ _ w.heap.size 38 [.string ⟨nm.toArray⟩, .int .i64 1, .string ⟨#[]⟩, .int .i64 (wrap64 (-n)), .bool false] _ rfl rfl (blk_new w _ _ _ rfl) Tryd.underlying38 rfl infoMem
                         · rfl
                         · exact ⟨⟨nm, 1, [], w64 (-n), false⟩, (j : Int), by unfold w64; rw [IntWalk.i64_left]; rfl, (fun y hy => by rw [HVN.out] at hy; cases hy; exact ⟨rfl, HZ.out⟩), (fun hy => by rw [HVN.out] at hy; cases hy), (Below.refl _ _).alloc (Nat.le_refl _) _⟩)
  · have hltI : ¬ ((at0 : Int) < (s.size : Int)) := by omega
    have i4 : ¬ ((at0 : Int) + 4 ≤ (s.size : Int)) := by omega
    have i5 : ¬ ((at0 : Int) + 5 ≤ (s.size : Int)) := by omega
    have HVN : Hid (valueP nm l = none) := by
      show _ = _
      rw [← HL.out, List.drop_of_length_le (by rw [HSL.out]; omega)]
      rfl
    clear hlt
    go_enter Tryd.func32, Tryd.ntmps32
    go_wp2_with fail
    go_loopg [10, 11] 0 (fun g s10 s11 wx => s11 = .int .i64 at0 ∧ s10 = .int .i64 0 ∧ wx = w.alloc (.cells #[.string ⟨#[]⟩, .int .i64 0, .string ⟨#[]⟩, .int .i64 0, .bool false] 38))
    case atStart => exact ⟨rfl, rfl, rfl⟩
    case round =>
      obtain ⟨rfl, rfl, rfl⟩ := hrel
      go_wp2_with fail
      refine bodyPost_ret (v := .tuple #[.agg ([.string ⟨#[]⟩, .int .i64 0, .string ⟨#[]⟩, .int .i64 0, .bool false] : List Value).toArray, .int .i64 (-1)]) (results_rowtmp Tryd.results32 _ _ w.heap.size 38 ([.string ⟨#[]⟩, .int .i64 0, .string ⟨#[]⟩, .int .i64 0, .bool false]) _ rfl rfl (blk_new w _ _ _ rfl) Tryd.underlying38 rfl infoMem) rfl ⟨⟨[], 0, [], 0, false⟩, -1, rfl, (fun y hy => by rw [HVN.out] at hy; cases hy), (fun _ => rfl), (Below.refl _ _).alloc (Nat.le_refl _) _⟩
end Go.Proofs.YtbgnoobgnpebdaaDoor.jsn
