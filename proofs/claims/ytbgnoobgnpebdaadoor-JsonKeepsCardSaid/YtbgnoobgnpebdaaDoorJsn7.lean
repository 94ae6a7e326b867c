/- The contract of the reference's str: the string that begins at a place. Texts of at most 16384 bytes. -/
import Derived.Test.YtbgnoobgnpebdaaDoorJsn6
namespace Go.Proofs.YtbgnoobgnpebdaaDoor.jsn
open Go.RowKit
open Go.Proofs.YtbgnoobgnpebdaaDoor.oct Go.Proofs.YtbgnoobgnpebdaaDoor.ref Go.Proofs.YtbgnoobgnpebdaaDoor.rows
open Go.Lib (byteCells)

theorem drop_text (s : ByteArray) (k : Nat) (h : k < s.size) : s.data.toList.drop k = s[k] :: s.data.toList.drop (k + 1) := by
  rw [List.drop_eq_getElem_cons (by simpa using h)]; rfl
/-- what str answers, of the text from a place on (n: the text's length) -/
def strV (n : Nat) (l : List UInt8) : Value := match l with
  | [] => .tuple #[tx [], .int .i64 (-1)]
  | q :: r => if q = 34 then match strP r with
    | some y => .tuple #[tx y.1, .int .i64 ((n - y.2.length : Nat) : Int)]
    | none => .tuple #[tx [], .int .i64 (-1)]
    else .tuple #[tx [], .int .i64 (-1)]
theorem map_snoc (o : Option (List UInt8 × List UInt8)) (acc : List UInt8) (c : UInt8) : (o.map (fun y => (c :: y.1, y.2))).map (fun y => (acc ++ y.1, y.2)) = o.map (fun y => ((acc ++ [c]) ++ y.1, y.2)) := by
  cases o <;> simp
theorem worth_q (c : UInt8) (m : Int) (hm : m = (c.toNat : Int)) (w : World) : Calls Tryd.prog 43 #[.int .u8 m] w fun e w' => e = .returned (.int .i64 (worth c : Nat)) ∧ w' = w := by
  subst hm; exact (worth_c c w).mono fun e w' ⟨a, b⟩ => ⟨a, b.symm⟩
set_option maxRecDepth 100000 in
set_option maxHeartbeats 4000000 in
theorem str_c (s : ByteArray) (at0 : Nat) (w : World) (hs : s.size ≤ 16384) (ha : at0 ≤ 16400) :
    Calls Tryd.prog 31 #[.string s, .int .i64 at0] w fun e w' => e = .returned (strV s.size (s.data.toList.drop at0)) ∧ Below w.heap.size w w' := by
  have HSL : Hid (s.data.toList.length = s.size) := by show _ = _; rw [Array.length_toList]; rfl
  by_cases hlt : at0 < s.size
  · have hltI : ¬ ((at0 : Int) ≥ (s.size : Int)) := by omega
    have hd := drop_text s at0 hlt
    obtain ⟨q, hq⟩ : ∃ q, s[at0] = q := ⟨_, rfl⟩
    rw [hq] at hd
    have hqq : (s[at0].toNat : Int) = (q.toNat : Int) := by rw [hq]
    have hql := q.toNat_lt
    by_cases h34 : q = 34
    · have hb34 : ((q.toNat : Int) != 34) = false := by rw [h34]; rfl
      have HV : Hid (strV s.size (s.data.toList.drop at0) = match strP (s.data.toList.drop (at0 + 1)) with | some y => .tuple #[tx y.1, .int .i64 ((s.size - y.2.length : Nat) : Int)] | none => .tuple #[tx [], .int .i64 (-1)]) := by
        show _ = _
        rw [hd, strV, if_pos h34]
      obtain ⟨S0, hS0⟩ : ∃ S0, strP (s.data.toList.drop (at0 + 1)) = S0 := ⟨_, rfl⟩
      rw [hS0] at HV
      have HS0 := Lib.hid hS0
      clear hd h34 hq hS0
      go_enter Tryd.func31, Tryd.ntmps31
      go_wp2_with fail
      go_loopg [6, 7, 8] (s.size - (at0 + 1)) (fun g s6 s7 s8 wx => ∃ (k : Nat) (acc : List UInt8), k + g = s.size ∧ s7 = .int .i64 k ∧ acc.length ≤ k ∧ Hid (S0 = (strP (s.data.toList.drop k)).map (fun y => (acc ++ y.1, y.2))) ∧ wx.ownsRow w.heap.size 5 1 s6 acc.length (byteCells acc) ∧ Below w.heap.size w wx)
      case atStart => exact ⟨at0 + 1, [], by omega, by go_num, by simp, by show _ = _; rw [HS0.out]; simp, World.ownsRow_nil _ _ _ _, Below.refl _ _⟩
      case round =>
        obtain ⟨k, acc, hkg, rfl, hal, HU, hrow, hbx⟩ := hrel
        by_cases hg0 : gk = 0
        · have hkz : ¬ ((k : Int) < (s.size : Int)) := by omega
          have HR : Hid (S0 = none) := by
            show _ = _
            rw [HU.out, List.drop_of_length_le (by rw [HSL.out]; omega), strP_nil]; rfl
          have HBX := Lib.hid hbx
          clear HU hrow hbx
          go_wp2_with fail
          go_ret2
          exact ⟨by rw [HV.out, HR.out]; rfl, HBX.out⟩
        · have hkz : (k : Int) < (s.size : Int) := by omega
          have hks : k < s.size := by omega
          have HD := Lib.hid (drop_text s k hks)
          obtain ⟨c, hc⟩ : ∃ c, s[k] = c := ⟨_, rfl⟩
          rw [hc] at HD
          have hcl := c.toNat_lt
          have hcc : (s[k].toNat : Int) = (c.toNat : Int) := by rw [hc]
          by_cases c34 : c = 34
          · have hb : ((c.toNat : Int) == 34) = true := by rw [c34]; rfl
            have HR : Hid (S0 = some (acc, s.data.toList.drop (k + 1))) := by
              show _ = _
              rw [HU.out, HD.out, c34, strP_end]; simp
            have HL : Hid (((s.size - (s.data.toList.drop (k + 1)).length : Nat) : Int) = (k : Int) + 1) := by show _ = _; rw [List.length_drop, HSL.out]; omega
            have hcv := conv_own hrow
            have HBX := Lib.hid hbx
            clear HU HD hrow hbx c34
            go_wp2_with fail
            go_ret2
            exact ⟨by rw [HV.out, HR.out]; show _ = Ending.returned (.tuple #[tx acc, .int .i64 ((s.size - (s.data.toList.drop (k + 1)).length : Nat) : Int)]); rw [HL.out]; rfl, HBX.out⟩
          · have hb : ((c.toNat : Int) == 34) = false := ne_byte c34
            have HST : Hid (S0 = (strP ((c :: s.data.toList.drop (k + 1)).drop (stepP c (s.data.toList.drop (k + 1))).2)).map (fun y => ((acc ++ [(stepP c (s.data.toList.drop (k + 1))).1]) ++ y.1, y.2))) := by
              show _ = _
              rw [HU.out, HD.out, strP_cons _ c34, map_snoc]
            clear HU
            by_cases c92 : c = 92
            · have hb2 : ((c.toNat : Int) == 92) = true := by rw [c92]; rfl
              by_cases hk1 : k + 1 < s.size
              · have i1 : (k : Int) + 1 < (s.size : Int) := by omega
                have HD1 := Lib.hid (drop_text s (k + 1) hk1)
                obtain ⟨x, hx⟩ : ∃ x, s[k + 1] = x := ⟨_, rfl⟩
                rw [hx] at HD1
                have hxx : (s[k + 1].toNat : Int) = (x.toNat : Int) := by rw [hx]
                have hxl := x.toNat_lt
                by_cases hes : x = 34 ∨ x = 92
                · have HN : Hid (S0 = (strP (s.data.toList.drop (k + 2))).map (fun y => ((acc ++ [x]) ++ y.1, y.2))) := by
                    have hst : stepP c (s.data.toList.drop (k + 1)) = (x, 2) := by
                      rw [c92, stepP, if_pos rfl, escP, HD1.out]
                      simp only [List.head?_cons, hes, if_true]
                    have h := HST.out
                    rw [hst] at h
                    show _ = _
                    rw [h, ← HD.out, List.drop_drop]
                  clear HST HD HD1 c92
                  by_cases h34x : x = 34
                  all_goals
                    (first | (have j1 : ((x.toNat : Int) == 34) = true := by rw [h34x]; rfl) | (have j1 : ((x.toNat : Int) == 34) = false := ne_byte h34x))
                    (try (have j2 : ((x.toNat : Int) == 92) = true := by rw [hes.resolve_left h34x]; rfl))
                    clear hes h34x
                    go_wp2_with (at_builtin; (refine wpList_append_one rfl (.tmp 99) (.tmp 101) rfl w.heap.size _ acc.length acc rfl hrow x _ rfl rfl (by omega) hbx.size ?_); intro g7 c7 w7 hn7 hg7 ho7 hl7; have hb7 := hbx.grown hg7 hbx.size (fun x hx => (hrow.lt _ hx).1); clear hg7 ho7)
                    go_roundg (gk - 2)
                    case measure => omega
                    case rel => exact ⟨k + 2, acc ++ [x], by omega, by go_num, by simp; omega, HN.out, by rw [List.length_append]; exact hn7, hb7⟩
                · have j1 : ((x.toNat : Int) == 34) = false := ne_byte (fun e => hes (Or.inl e))
                  have j2 : ((x.toNat : Int) == 92) = false := ne_byte (fun e => hes (Or.inr e))
                  by_cases hk5 : k + 5 < s.size
                  · have i5 : (k : Int) + 5 < (s.size : Int) := by omega
                    have i4 : (k : Int) + 4 < (s.size : Int) := by omega
                    have hk4 : k + 4 < s.size := by omega
                    have hd2 := drop_text s (k + 2) (by omega)
                    have hd3 := drop_text s (k + 3) (by omega)
                    have hd4 := drop_text s (k + 4) hk4
                    have hd5 := drop_text s (k + 5) hk5
                    obtain ⟨a, hea⟩ : ∃ a, s[k + 4] = a := ⟨_, rfl⟩
                    obtain ⟨b, heb⟩ : ∃ b, s[k + 5] = b := ⟨_, rfl⟩
                    rw [hea] at hd4
                    rw [heb] at hd5
                    have haa : (s[k + 4].toNat : Int) = (a.toNat : Int) := by rw [hea]
                    have hbb : (s[k + 5].toNat : Int) = (b.toNat : Int) := by rw [heb]
                    have HX : Hid (hexP (s.data.toList.drop (k + 1)) = if worth a < 16 ∧ worth b < 16 then some (UInt8.ofNat (16 * worth a + worth b)) else none) := by
                      show _ = _
                      rw [HD1.out, hd2, hd3, hd4, hd5, hexP_5]
                    have HWA := Lib.hid (fun w => worth_q a (a.toNat : Int) rfl w)
                    have HWB := Lib.hid (fun w => worth_q b (b.toNat : Int) rfl w)
                    have ha16 := worth_le a
                    have hb16 := worth_le b
                    clear hd2 hd3 hd4 hd5 hea heb
                    by_cases hx16 : worth a < 16
                    · by_cases hy16 : worth b < 16
                      · have HN : Hid (S0 = (strP (s.data.toList.drop (k + 6))).map (fun y => ((acc ++ [UInt8.ofNat (16 * worth a + worth b)]) ++ y.1, y.2))) := by
                          have hst : stepP c (s.data.toList.drop (k + 1)) = (UInt8.ofNat (16 * worth a + worth b), 6) := by
                            rw [c92, stepP, if_pos rfl, escP, HX.out, if_pos ⟨hx16, hy16⟩, HD1.out]
                            simp only [List.head?_cons, hes, if_false]
                          have h := HST.out
                          rw [hst] at h
                          show _ = _
                          rw [h, ← HD.out, List.drop_drop]
                        clear HST HD HX HD1 c92 hes
                        obtain ⟨x1, hx1⟩ : ∃ x, worth a = x := ⟨_, rfl⟩
                        obtain ⟨y1, hy1⟩ : ∃ y, worth b = y := ⟨_, rfl⟩
                        rw [hx1] at HWA HN hx16
                        rw [hy1] at HWB HN hy16
                        have hdn : (UInt8.ofNat (16 * x1 + y1)).toNat = 16 * x1 + y1 := by rw [UInt8.toNat_ofNat', Nat.mod_eq_of_lt (by omega)]
                        obtain ⟨d, hd⟩ : ∃ d, UInt8.ofNat (16 * x1 + y1) = d := ⟨_, rfl⟩
                        rw [hd] at HN hdn
                        have hxI : (x1 : Int) < 16 := by omega
                        have hyI : (y1 : Int) < 16 := by omega
                        have m1 : IntKind.i64.wrap (16 * (x1 : Int)) = 16 * (x1 : Int) := by rw [IntKind.wrap_i64]; omega
                        have m2 : IntKind.i64.wrap (16 * (x1 : Int) + (y1 : Int)) = (d.toNat : Int) := by rw [IntKind.wrap_i64]; omega
                        have m3 : IntKind.u8.wrap (d.toNat : Int) = (d.toNat : Int) := wraps_u8 _ (by omega) (by omega)
                        have m4 : IntKind.i64.wrap ((k : Int) + 4) = (k : Int) + 4 := by rw [IntKind.wrap_i64]; omega
                        have m5 : IntKind.i64.wrap ((k : Int) + 5) = (k : Int) + 5 := by rw [IntKind.wrap_i64]; omega
                        have m6 : (0 : Int) ≤ (k : Int) + 4 ∧ (k : Int) + 4 < (s.size : Int) := by omega
                        have m7 : (0 : Int) ≤ (k : Int) + 5 ∧ (k : Int) + 5 < (s.size : Int) := by omega
                        have m8 : ((k : Int) + 4).toNat = k + 4 := by omega
                        have m9 : ((k : Int) + 5).toNat = k + 5 := by omega
                        have HCD : Hid (#[Value.int .u8 (16 * (x1 : Int) + (y1 : Int))] = (byteCells [d]).toArray) := by
                          show #[Value.int .u8 (16 * (x1 : Int) + (y1 : Int))] = #[Value.int .u8 (d.toNat : Int)]
                          rw [show 16 * (x1 : Int) + (y1 : Int) = (d.toNat : Int) by omega]
                        clear hd hx1 hy1
                        go_wp2_with fail
                        refine (HWA.out wr).mono ?_
                        rintro e w' ⟨rfl, rfl⟩
                        go_wp2_with fail
                        refine (HWB.out _).mono ?_
                        rintro e w' ⟨rfl, rfl⟩
                        go_wp2_with fail
                        go_quiet ((first | (go_at_call_of 43 (Value.int .u8 (a.toNat : Int)); exact Calls.quiet_of_same (HWA.out _)) | (go_at_call 43; exact Calls.quiet_of_same (HWB.out _))))
                        have hrn : (w'.drewN nq).ownsRow w.heap.size 5 1 u6 acc.length (byteCells acc) := hrow
                        have hbn := below_drewN hbx nq
                        obtain ⟨wn, hwn⟩ : ∃ x, x = w'.drewN nq := ⟨_, rfl⟩
                        rw [← hwn] at hrn hbn ⊢
                        clear hrow hbx hwn
                        go_wp2_with (at_builtin; (refine wpList_append_one rfl (.tmp 99) (.tmp 101) rfl w.heap.size _ acc.length acc rfl hrn d _ HCD.out rfl (by omega) hbn.size ?_); intro g7 c7 w7 hn7 hg7 ho7 hl7; have hb7 := hbn.grown hg7 hbn.size (fun x hx => (hrn.lt _ hx).1); clear hg7 ho7)
                        go_roundg (gk - 6)
                        case measure => omega
                        case rel => exact ⟨k + 6, acc ++ [d], by omega, by go_num, by simp; omega, HN.out, by rw [List.length_append]; exact hn7, hb7⟩
                      · have HN : Hid (S0 = (strP (s.data.toList.drop (k + 1))).map (fun y => ((acc ++ [92]) ++ y.1, y.2))) := by
                          have hst : stepP c (s.data.toList.drop (k + 1)) = (92, 1) := by
                            rw [c92, stepP, if_pos rfl, escP, HX.out, if_neg (fun h => hy16 h.2), HD1.out]
                            simp only [List.head?_cons, hes, if_false]
                          have h := HST.out
                          rw [hst] at h
                          show _ = _
                          rw [h, ← HD.out, List.drop_drop]
                        rw [← c92] at HN
                        clear HST HD HX HD1 c92 hes
                        obtain ⟨x1, hx1⟩ : ∃ x, worth a = x := ⟨_, rfl⟩
                        obtain ⟨y1, hy1⟩ : ∃ y, worth b = y := ⟨_, rfl⟩
                        rw [hx1] at HWA hx16
                        rw [hy1] at HWB hy16
                        have hxI : (x1 : Int) < 16 := by omega
                        have hyI : ¬ ((y1 : Int) < 16) := by omega
                        clear hx1 hy1
                        go_wp2_with fail
                        refine (HWA.out wr).mono ?_
                        rintro e w' ⟨rfl, rfl⟩
                        go_wp2_with fail
                        refine (HWB.out _).mono ?_
                        rintro e w' ⟨rfl, rfl⟩
                        go_wp2_with (at_builtin; (refine wpList_append_one rfl (.tmp 99) (.tmp 101) rfl w.heap.size _ acc.length acc rfl hrow c _ rfl rfl (by omega) hbx.size ?_); intro g7 c7 w7 hn7 hg7 ho7 hl7; have hb7 := hbx.grown hg7 hbx.size (fun x hx => (hrow.lt _ hx).1); clear hg7 ho7)
                        go_roundg (gk - 1)
                        case measure => omega
                        case rel => exact ⟨k + 1, acc ++ [c], by omega, by go_num, by simp; omega, HN.out, by rw [List.length_append]; exact hn7, hb7⟩
                    · have HN : Hid (S0 = (strP (s.data.toList.drop (k + 1))).map (fun y => ((acc ++ [92]) ++ y.1, y.2))) := by
                        have hst : stepP c (s.data.toList.drop (k + 1)) = (92, 1) := by
                          rw [c92, stepP, if_pos rfl, escP, HX.out, if_neg (fun h => hx16 h.1), HD1.out]
                          simp only [List.head?_cons, hes, if_false]
                        have h := HST.out
                        rw [hst] at h
                        show _ = _
                        rw [h, ← HD.out, List.drop_drop]
                      rw [← c92] at HN
                      clear HST HD HX HD1 c92 hes
                      obtain ⟨x1, hx1⟩ : ∃ x, worth a = x := ⟨_, rfl⟩
                      rw [hx1] at HWA hx16
                      have hxI : ¬ ((x1 : Int) < 16) := by omega
                      clear hx1
                      go_wp2_with fail
                      refine (HWA.out wr).mono ?_
                      rintro e w' ⟨rfl, rfl⟩
                      go_wp2_with (at_builtin; (refine wpList_append_one rfl (.tmp 99) (.tmp 101) rfl w.heap.size _ acc.length acc rfl hrow c _ rfl rfl (by omega) hbx.size ?_); intro g7 c7 w7 hn7 hg7 ho7 hl7; have hb7 := hbx.grown hg7 hbx.size (fun x hx => (hrow.lt _ hx).1); clear hg7 ho7)
                      go_roundg (gk - 1)
                      case measure => omega
                      case rel => exact ⟨k + 1, acc ++ [c], by omega, by go_num, by simp; omega, HN.out, by rw [List.length_append]; exact hn7, hb7⟩
                  · have i5 : ¬ ((k : Int) + 5 < (s.size : Int)) := by omega
                    have HN : Hid (S0 = (strP (s.data.toList.drop (k + 1))).map (fun y => ((acc ++ [92]) ++ y.1, y.2))) := by
                      have hst : stepP c (s.data.toList.drop (k + 1)) = (92, 1) := by
                        rw [c92, stepP, if_pos rfl, escP, hexP_short _ (by rw [List.length_drop, HSL.out]; omega), HD1.out]
                        simp only [List.head?_cons, hes, if_false]
                      have h := HST.out
                      rw [hst] at h
                      show _ = _
                      rw [h, ← HD.out, List.drop_drop]
                    rw [← c92] at HN
                    clear HST HD HD1 c92 hes
                    go_wp2_with (at_builtin; (refine wpList_append_one rfl (.tmp 99) (.tmp 101) rfl w.heap.size _ acc.length acc rfl hrow c _ rfl rfl (by omega) hbx.size ?_); intro g7 c7 w7 hn7 hg7 ho7 hl7; have hb7 := hbx.grown hg7 hbx.size (fun x hx => (hrow.lt _ hx).1); clear hg7 ho7)
                    go_roundg (gk - 1)
                    case measure => omega
                    case rel => exact ⟨k + 1, acc ++ [c], by omega, by go_num, by simp; omega, HN.out, by rw [List.length_append]; exact hn7, hb7⟩
              · have i1 : ¬ ((k : Int) + 1 < (s.size : Int)) := by omega
                have i5 : ¬ ((k : Int) + 5 < (s.size : Int)) := by omega
                have HN : Hid (S0 = (strP (s.data.toList.drop (k + 1))).map (fun y => ((acc ++ [92]) ++ y.1, y.2))) := by
                  have hst : stepP c (s.data.toList.drop (k + 1)) = (92, 1) := by
                    rw [c92, stepP, if_pos rfl, escP, List.drop_of_length_le (by rw [HSL.out]; omega)]
                    rfl
                  have h := HST.out
                  rw [hst] at h
                  show _ = _
                  rw [h, ← HD.out, List.drop_drop]
                rw [← c92] at HN
                clear HST HD c92
                go_wp2_with (at_builtin; (refine wpList_append_one rfl (.tmp 99) (.tmp 101) rfl w.heap.size _ acc.length acc rfl hrow c _ rfl rfl (by omega) hbx.size ?_); intro g7 c7 w7 hn7 hg7 ho7 hl7; have hb7 := hbx.grown hg7 hbx.size (fun x hx => (hrow.lt _ hx).1); clear hg7 ho7)
                go_roundg (gk - 1)
                case measure => omega
                case rel => exact ⟨k + 1, acc ++ [c], by omega, by go_num, by simp; omega, HN.out, by rw [List.length_append]; exact hn7, hb7⟩
            · have hb2 : ((c.toNat : Int) == 92) = false := ne_byte c92
              have HN : Hid (S0 = (strP (s.data.toList.drop (k + 1))).map (fun y => ((acc ++ [c]) ++ y.1, y.2))) := by
                have hst : stepP c (s.data.toList.drop (k + 1)) = (c, 1) := by
                  rw [stepP, if_neg c92]
                have h := HST.out
                rw [hst] at h
                show _ = _
                rw [h, ← HD.out, List.drop_drop]
              clear HST HD c92
              go_wp2_with (at_builtin; (refine wpList_append_one rfl (.tmp 99) (.tmp 101) rfl w.heap.size _ acc.length acc rfl hrow c _ rfl rfl (by omega) hbx.size ?_); intro g7 c7 w7 hn7 hg7 ho7 hl7; have hb7 := hbx.grown hg7 hbx.size (fun x hx => (hrow.lt _ hx).1); clear hg7 ho7)
              go_roundg (gk - 1)
              case measure => omega
              case rel => exact ⟨k + 1, acc ++ [c], by omega, by go_num, by simp; omega, HN.out, by rw [List.length_append]; exact hn7, hb7⟩
    · have hb34 : ((q.toNat : Int) != 34) = true := by have := ne_byte h34; simp only [bne]; rw [show (34 : Int) = (((34 : UInt8).toNat : Nat) : Int) from rfl, this]; rfl
      have HV : Hid (strV s.size (s.data.toList.drop at0) = .tuple #[tx [], .int .i64 (-1)]) := by
        show _ = _
        rw [hd, strV, if_neg h34]
      clear hd h34 hq
      go_enter Tryd.func31, Tryd.ntmps31
      go_wp2_with fail
      go_ret2
      exact ⟨by rw [HV.out]; rfl, Below.refl _ _⟩
  · have hltI : (at0 : Int) ≥ (s.size : Int) := by omega
    have HV : Hid (strV s.size (s.data.toList.drop at0) = .tuple #[tx [], .int .i64 (-1)]) := by
      show _ = _
      rw [List.drop_of_length_le (by rw [HSL.out]; omega)]; rfl
    clear hlt
    go_enter Tryd.func31, Tryd.ntmps31
    go_wp2_with fail
    go_ret2
    exact ⟨by rw [HV.out]; rfl, Below.refl _ _⟩
end Go.Proofs.YtbgnoobgnpebdaaDoor.jsn
