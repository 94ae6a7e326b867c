/- strings.Cut at one byte, of texts up to 2^48 (as XFdv1's, whose bound is less); at a point. -/
import Derived.Test.YtjadginnaogjoaaGreatDoorFdv1
import Derived.Test.YtjadginnaogjoaaGreatDoorSe4
namespace Go.Proofs.YtjadginnaogjoaaGreatDoor.sea
open Go.RowKit
open Go.Proofs.YtjadginnaogjoaaGreatDoor.oct Go.Proofs.YtjadginnaogjoaaGreatDoor.ref Go.Proofs.YtjadginnaogjoaaGreatDoor.fld Go.Proofs.YtjadginnaogjoaaGreatDoor.fdv
open Go.Lib (byteCells)

set_option maxRecDepth 100000 in
set_option maxHeartbeats 1000000 in
theorem scutW (s : ByteArray) (c : UInt8) (w : World) (hs : s.size ≤ 281474976710656) : Calls Tryz.prog 34 #[.string s, .string ⟨#[c]⟩] w fun e w' => e = .returned (cut1 c s.data.toList) ∧ ∃ n, w' = w.drewN n := by
  have HI := Lib.hid (sindex1 s c w)
  have hsz : (⟨#[c]⟩ : ByteArray).size = 1 := rfl
  by_cases hm : c ∈ s.data.toList
  · have HX := Lib.hid (ix_hit c _ hm)
    obtain ⟨t1, t2, t3⟩ := tw_hit c _ hm
    have hl : s.data.toList.length = s.size := by rw [Array.length_toList]; rfl
    rw [hl] at t1
    obtain ⟨i, hi⟩ : ∃ i, (s.data.toList.takeWhile (· ≠ c)).length = i := ⟨_, rfl⟩
    rw [hi] at t1 t2 t3 HX
    have HE1 : Hid ((⟨(s.data.toList.takeWhile (· ≠ c)).toArray⟩ : ByteArray) = s.extract 0 i) := by
      show _ = _
      rw [t2, Lib.extract_eq]; simp
    have HE2 : Hid ((⟨((s.data.toList.dropWhile (· ≠ c)).drop 1).toArray⟩ : ByteArray) = s.extract (i + 1) s.size) := by
      show _ = _
      rw [t3, Lib.extract_eq]
      have ht : List.take (s.size - (i + 1)) (List.drop (i + 1) s.data.toList) = List.drop (i + 1) s.data.toList :=
        List.take_of_length_le (by rw [List.length_drop, hl]; exact Nat.le_refl _)
      rw [ht]
    have HM := Lib.hid hm
    have c1 : (0 : Int) ≤ ↑i := by omega
    have c2 : (↑i : Int) ≤ ↑s.size := by omega
    have c3 : (0 : Int) ≤ ↑i + 1 := by omega
    have c4 : (↑i + 1 : Int) ≤ ↑s.size := by omega
    have c5 : IntKind.i64.wrap ((i : Int) + 1) = (i : Int) + 1 := by rw [IntKind.wrap_i64]; omega
    clear hm t2 t3 hl hi
    go_enter Tryz.func34, Tryz.ntmps34
    go_wp2_with (go_at_call 50; refine HI.out.mono ?_; rintro e w' ⟨rfl, rfl⟩; rw [HX.out])
    go_quiet (fail)
    go_wp2_with fail
    go_ret3
    exact ⟨by unfold cut1; rw [HE1.out, HE2.out, decide_eq_true HM.out]; rfl, _, rfl⟩
  · have HX := Lib.hid (ix_miss c _ hm)
    have HV : Hid (cut1 c s.data.toList = .tuple #[.string s, .string ⟨#[]⟩, .bool false]) := by
      show _ = _
      unfold cut1
      rw [(tw_miss c _ hm).1, (tw_miss c _ hm).2, Lib.mk_data, decide_eq_false hm]; rfl
    clear hm
    go_enter Tryz.func34, Tryz.ntmps34
    go_wp2_with (go_at_call 50; refine HI.out.mono ?_; rintro e w' ⟨rfl, rfl⟩; rw [HX.out])
    go_ret3
    exact ⟨by rw [HV.out]; rfl, 0, rfl⟩
set_option maxHeartbeats 1000000 in
theorem cutW_c (s : ByteArray) (c : UInt8) (w : World) (hs : s.size ≤ 281474976710656) : Calls Tryz.prog 19 #[.string s, .string ⟨#[c]⟩] w fun e w' => e = .returned (cut1 c s.data.toList) ∧ ∃ n, w' = w.drewN n := by
  obtain ⟨A, B, F, hV⟩ : ∃ A B F, cut1 c s.data.toList = .tuple #[.string A, .string B, .bool F] := ⟨_, _, _, rfl⟩
  have h := scutW s c w hs
  rw [hV] at h ⊢
  have HI := Lib.hid h
  clear h hV
  go_enter Tryz.func19, Tryz.ntmps19
  go_wp2_with (go_at_call 34; refine HI.out.mono ?_; rintro e w' ⟨rfl, n, rfl⟩)
  go_ret3
  exact ⟨rfl, n, rfl⟩
theorem cutT_c (l : T) (w : World) (hl : l.length ≤ 281474976710656) : Calls Tryz.prog 19 #[txt l, .string ⟨#[46]⟩] w fun e w' => e = .returned (.tuple #[txt (cutL l), txt (cutR l), .bool (decide ((46 : UInt8) ∈ l))]) ∧ Below w.heap.size w w' :=
  (cutW_c ⟨l.toArray⟩ 46 w (by rw [show (⟨l.toArray⟩ : ByteArray).size = l.length from List.size_toArray]; exact hl)).mono fun e w' ⟨he, n, hw⟩ => ⟨he, by rw [hw]; exact below_drewN (Below.refl _ _) n⟩
theorem cutL_len (l : T) : (cutL l).length ≤ l.length := (List.takeWhile_prefix _).length_le
theorem cutR_len (l : T) : (cutR l).length ≤ l.length := by
  unfold cutR
  rw [List.length_drop]
  have := (List.dropWhile_suffix (l := l) (fun x : UInt8 => decide (x ≠ 46))).length_le
  omega
end Go.Proofs.YtjadginnaogjoaaGreatDoor.sea
