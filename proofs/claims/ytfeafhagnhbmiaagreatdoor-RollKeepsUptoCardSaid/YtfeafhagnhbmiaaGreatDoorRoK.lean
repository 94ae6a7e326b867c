/- The developers' shown. Headers of at most 8388608 bytes. -/
import Derived.Test.YtfeafhagnhbmiaaGreatDoorRoJ
import Derived.Test.YtfeafhagnhbmiaaGreatDoorOctA
import Derived.Test.YtfeafhagnhbmiaaGreatDoorFldB
import Derived.OwnWalk
namespace Go.Proofs.YtfeafhagnhbmiaaGreatDoor.rol
open Go.RowKit
open Go.Proofs.YtfeafhagnhbmiaaGreatDoor.oct Go.Proofs.YtfeafhagnhbmiaaGreatDoor.ref Go.Proofs.YtfeafhagnhbmiaaGreatDoor.rows Go.Proofs.YtfeafhagnhbmiaaGreatDoor.rowg Go.Proofs.YtfeafhagnhbmiaaGreatDoor.trn
open Go.Proofs.YtfeafhagnhbmiaaGreatDoor.scp (tx Lst lval)
open Go.Proofs.YtfeafhagnhbmiaaGreatDoor.fld (quote unq unqV)
open Go.Proofs.YtfeafhagnhbmiaaGreatDoor.fdv (cut1 cut_c unquote_c)
open Go.Lib (byteCells)

/-- what shown answers -/
def ShownA (r : Option (T × T)) (e : Ending) : Prop := match r with
  | some (x, y) => e = .returned (.tuple #[.string ⟨x.toArray⟩, .string ⟨y.toArray⟩, .bool true])
  | none => ∃ a b : T, e = .returned (.tuple #[.string ⟨a.toArray⟩, .string ⟨b.toArray⟩, .bool false]) ∧ a.length ≤ 8388608 ∧ b.length ≤ 8388608
theorem unq_le {l m : T} (h : unq l = some m) : m.length ≤ l.length := fld.unq_len l.length l m (Nat.le_refl _) h
theorem shown_none {s : T} (h : s.take 6 ≠ wBas) : shownP s = none := by unfold shownP; rw [if_neg h]
theorem shown_some {s : T} (h : s.take 6 = wBas) : shownP s = match unbasP (s.drop 6) with | some b => shownB b | none => none := by unfold shownP; rw [if_pos h]; rfl
theorem unqV_some (l : T) (m : T) (h : unq l = some m) : unqV (unq l) = .tuple #[.string ⟨m.toArray⟩, .int .i64 0] := by rw [h]; rfl
theorem unqV_none (l : T) (h : unq l = none) : unqV (unq l) = .tuple #[.string ⟨#[]⟩, .int .i64 3] := by rw [h]; rfl
set_option maxRecDepth 100000 in
set_option maxHeartbeats 400000 in
theorem shown_c (s : T) (w : World) (hs : s.length ≤ 8388608) : Calls Tryz.prog 35 #[.string ⟨s.toArray⟩] w fun e w' => ShownA (shownP s) e ∧ Below w.heap.size w w' := by
  have HP := Lib.hid (cutPrefix_c s w)
  by_cases hb : s.take 6 = wBas
  · have HSH := Lib.hid (shown_some hb)
    rw [decide_eq_true hb, if_pos hb] at HP
    have hdl : (s.drop 6).length ≤ 8388608 := by rw [List.length_drop]; omega
    have HUB := Lib.hid (unbas_c ⟨(s.drop 6).toArray⟩ w (by rw [size_mk]; omega))
    have e0 : (⟨(s.drop 6).toArray⟩ : ByteArray).data.toList = s.drop 6 := by simp
    rw [e0] at HUB
    obtain ⟨d, hd⟩ : ∃ d, s.drop 6 = d := ⟨_, rfl⟩
    rw [hd] at HP HUB HSH hdl
    obtain ⟨res, hres⟩ : ∃ res, shownP s = res := ⟨_, rfl⟩
    rw [hres] at HSH ⊢
    have HDL := Lib.hid hdl
    clear hb e0 hd hs hres hdl
    go_enter Tryz.func35, Tryz.ntmps35
    go_upto_region 4 with (go_at_call 62; (with_reducible refine HP.out.mono ?_); rintro e w2 ⟨rfl, rfl⟩)
    go_wp2_with fail
    refine HUB.out.mono ?_
    rintro e w1 (⟨o, v, ho, rfl, hown, hb1⟩ | ⟨hno, rfl, hb1⟩)
    · have HB1 := Lib.hid hb1
      have hu := unbas_of ho
      have hol : o.length ≤ 8388608 := by
        have h1 := basT_len o
        rw [ho] at h1
        have := HDL.out
        omega
      have HR : Hid (res = shownB o) := Lib.hid (by rw [HSH.out, hu])
      have hcv := conv_own hown
      obtain ⟨_, p, cp, rfl, _⟩ := own_in8 hown
      have HCT := Lib.hid (cut_c ⟨o.toArray⟩ 58 w1 (by rw [size_mk]; omega))
      have e1 : (⟨o.toArray⟩ : ByteArray).data.toList = o := by simp
      rw [e1] at HCT
      unfold cut1 at HCT
      have ht1 : (o.takeWhile (· ≠ 58)).length ≤ 8388608 := Nat.le_trans (List.takeWhile_sublist _).length_le hol
      have ht2 : ((o.dropWhile (· ≠ 58)).drop 1).length ≤ 8388608 := Nat.le_trans ((List.drop_sublist _ _).trans (List.dropWhile_sublist _)).length_le hol
      have HU1 := Lib.hid (fun W => unquote_c ⟨(o.takeWhile (· ≠ 58)).toArray⟩ W (by rw [size_mk]; omega))
      have HU2 := Lib.hid (fun W => unquote_c ⟨((o.dropWhile (· ≠ 58)).drop 1).toArray⟩ W (by rw [size_mk]; omega))
      have e2 : (⟨(o.takeWhile (· ≠ 58)).toArray⟩ : ByteArray).data.toList = o.takeWhile (· ≠ 58) := by simp
      have e3 : (⟨((o.dropWhile (· ≠ 58)).drop 1).toArray⟩ : ByteArray).data.toList = (o.dropWhile (· ≠ 58)).drop 1 := by simp
      rw [e2] at HU1
      rw [e3] at HU2
      have HSB : Hid (shownB o = if (58 : UInt8) ∈ o then unq2 (o.takeWhile (· ≠ 58), (o.dropWhile (· ≠ 58)).drop 1) else none) := rfl
      obtain ⟨x1, hx1⟩ : ∃ x, o.takeWhile (· ≠ 58) = x := ⟨_, rfl⟩
      obtain ⟨x2, hx2⟩ : ∃ x, (o.dropWhile (· ≠ 58)).drop 1 = x := ⟨_, rfl⟩
      rw [hx1, hx2] at HSB HCT
      rw [hx1] at HU1 ht1
      rw [hx2] at HU2 ht2
      rw [HSB.out] at HR
      have HT1 := Lib.hid ht1
      have HT2 := Lib.hid ht2
      obtain ⟨m, hm⟩ : ∃ m, o.length = m := ⟨_, rfl⟩
      clear e1 e2 e3 hx1 hx2 ht1 ht2 HSB hown hb1 hu hol ho hm
      by_cases hc : (58 : UInt8) ∈ o
      · rw [if_pos hc] at HR
        rw [decide_eq_true hc] at HCT
        clear hc
        cases hq1 : unq x1 with
        | none =>
          have HR2 : Hid (res = none) := Lib.hid (by rw [HR.out]; unfold unq2; rw [hq1])
          rw [unqV_none x1 hq1] at HU1
          clear hq1 HR
          go_wp2_with (first
            | (go_at_call 64; (with_reducible refine HCT.out.mono ?_); rintro e w2 ⟨rfl, nd, rfl⟩)
            | (go_at_call_of 65 (Value.string ⟨x1.toArray⟩); (with_reducible refine (HU1.out _).mono ?_); rintro e w3 ⟨rfl, hb3⟩; have HB3 := Lib.hid (bnext (below_drewN HB1.out nd) hb3); clear hb3)
            | (go_at_call_of 65 (Value.string ⟨x2.toArray⟩); (with_reducible refine (HU2.out _).mono ?_); rintro e w4 ⟨rfl, hb4⟩; have HB4 := Lib.hid (bnext HB3.out hb4); clear hb4))
          go_ret3
          rw [HR2.out]
          exact ⟨⟨[], [], rfl, by simp, by simp⟩, HB3.out⟩
        | some y1 =>
          rw [unqV_some x1 y1 hq1] at HU1
          have hl1 := unq_le hq1
          cases hq2 : unq x2 with
          | none =>
            have HR2 : Hid (res = none) := Lib.hid (by rw [HR.out]; unfold unq2; rw [hq1, hq2])
            rw [unqV_none x2 hq2] at HU2
            have HL1 := Lib.hid hl1
            clear hq1 hq2 HR hl1
            go_wp2_with (first
            | (go_at_call 64; (with_reducible refine HCT.out.mono ?_); rintro e w2 ⟨rfl, nd, rfl⟩)
            | (go_at_call_of 65 (Value.string ⟨x1.toArray⟩); (with_reducible refine (HU1.out _).mono ?_); rintro e w3 ⟨rfl, hb3⟩; have HB3 := Lib.hid (bnext (below_drewN HB1.out nd) hb3); clear hb3)
            | (go_at_call_of 65 (Value.string ⟨x2.toArray⟩); (with_reducible refine (HU2.out _).mono ?_); rintro e w4 ⟨rfl, hb4⟩; have HB4 := Lib.hid (bnext HB3.out hb4); clear hb4))
            go_ret3
            rw [HR2.out]
            exact ⟨⟨y1, [], rfl, Nat.le_trans HL1.out HT1.out, by simp⟩, HB4.out⟩
          | some y2 =>
            have HR2 : Hid (res = some (y1, y2)) := Lib.hid (by rw [HR.out]; unfold unq2; rw [hq1, hq2])
            rw [unqV_some x2 y2 hq2] at HU2
            clear hq1 hq2 HR hl1
            go_wp2_with (first
            | (go_at_call 64; (with_reducible refine HCT.out.mono ?_); rintro e w2 ⟨rfl, nd, rfl⟩)
            | (go_at_call_of 65 (Value.string ⟨x1.toArray⟩); (with_reducible refine (HU1.out _).mono ?_); rintro e w3 ⟨rfl, hb3⟩; have HB3 := Lib.hid (bnext (below_drewN HB1.out nd) hb3); clear hb3)
            | (go_at_call_of 65 (Value.string ⟨x2.toArray⟩); (with_reducible refine (HU2.out _).mono ?_); rintro e w4 ⟨rfl, hb4⟩; have HB4 := Lib.hid (bnext HB3.out hb4); clear hb4))
            go_ret3
            rw [HR2.out]
            exact ⟨rfl, HB4.out⟩
      · rw [if_neg hc] at HR
        rw [decide_eq_false hc] at HCT
        clear hc
        go_wp2_with (first
            | (go_at_call 64; (with_reducible refine HCT.out.mono ?_); rintro e w2 ⟨rfl, nd, rfl⟩)
            | (go_at_call_of 65 (Value.string ⟨x1.toArray⟩); (with_reducible refine (HU1.out _).mono ?_); rintro e w3 ⟨rfl, hb3⟩; have HB3 := Lib.hid (bnext (below_drewN HB1.out nd) hb3); clear hb3)
            | (go_at_call_of 65 (Value.string ⟨x2.toArray⟩); (with_reducible refine (HU2.out _).mono ?_); rintro e w4 ⟨rfl, hb4⟩; have HB4 := Lib.hid (bnext HB3.out hb4); clear hb4))
        go_ret3
        rw [HR.out]
        exact ⟨⟨[], [], rfl, by simp, by simp⟩, below_drewN HB1.out nd⟩
    · have HR : Hid (res = none) := Lib.hid (by rw [HSH.out, unbas_no hno])
      have HB1 := Lib.hid hb1
      clear hno hb1
      go_wp2_with fail
      go_ret3
      rw [HR.out]
      exact ⟨⟨[], [], rfl, by simp, by simp⟩, HB1.out⟩
  · have HR := Lib.hid (shown_none hb)
    rw [decide_eq_false hb, if_neg hb] at HP
    clear hb hs
    go_enter Tryz.func35, Tryz.ntmps35
    go_wp2_with (go_at_call 62; (with_reducible refine HP.out.mono ?_); rintro e w2 ⟨rfl, rfl⟩)
    go_ret3
    rw [HR.out]
    exact ⟨⟨[], [], rfl, by simp, by simp⟩, Below.refl _ _⟩
end Go.Proofs.YtfeafhagnhbmiaaGreatDoor.rol
