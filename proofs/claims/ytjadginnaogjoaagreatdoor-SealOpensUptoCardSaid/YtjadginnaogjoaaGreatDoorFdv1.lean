/- strings.Cut at a separator of one byte, by package stringslite's Index and Cut (no package variable is read there); strings.Clone. Conditions: as each theorem says. -/
import Derived.Test.YtjadginnaogjoaaGreatDoorShFld
import Derived.Test.YtjadginnaogjoaaGreatDoorFld4
import Derived.Lib.CutLaws
namespace Go.Proofs.YtjadginnaogjoaaGreatDoor.fdv
open Go.RowKit
open Go.Proofs.YtjadginnaogjoaaGreatDoor.oct Go.Proofs.YtjadginnaogjoaaGreatDoor.ref Go.Proofs.YtjadginnaogjoaaGreatDoor.fld
open Go.Lib (byteCells)

theorem ix_miss (c : UInt8) : ∀ l : List UInt8, c ∉ l → Lib.indexByte l c = -1
  | [], _ => rfl
  | b :: l, h => by
    have hb : ¬ b = c := fun e => h (by simp [e])
    have := ix_miss c l (fun e => h (by simp [e]))
    simp [Lib.indexByte, hb, this]
theorem ix_hit (c : UInt8) : ∀ l : List UInt8, c ∈ l → Lib.indexByte l c = ((l.takeWhile (· ≠ c)).length : Int)
  | [], h => by cases h
  | b :: l, h => by
    by_cases hb : b = c
    · simp [Lib.indexByte, hb]
    · have hl : c ∈ l := by
        rcases List.mem_cons.1 h with e | e
        · exact absurd e.symm hb
        · exact e
      have := ix_hit c l hl
      unfold Lib.indexByte
      rw [if_neg (by simpa using hb), this, if_neg (by simp)]
      simp [hb]
theorem tw_miss (c : UInt8) (l : List UInt8) (h : c ∉ l) : l.takeWhile (· ≠ c) = l ∧ l.dropWhile (· ≠ c) = [] := by
  have h2 : ∀ x ∈ l, (decide (x ≠ c)) = true := fun x hx => by simpa using fun e : x = c => h (e ▸ hx)
  constructor
  · have := List.takeWhile_append_of_pos (l₂ := []) h2
    simpa using this
  · have := List.dropWhile_append_of_pos (l₂ := []) h2
    simpa using this
theorem tw_hit (c : UInt8) : ∀ l : List UInt8, c ∈ l → (l.takeWhile (· ≠ c)).length < l.length ∧ l.takeWhile (· ≠ c) = l.take (l.takeWhile (· ≠ c)).length ∧ (l.dropWhile (· ≠ c)).drop 1 = l.drop ((l.takeWhile (· ≠ c)).length + 1)
  | [], h => by cases h
  | b :: l, h => by
    by_cases hb : b = c
    · simp [hb]
    · have hl : c ∈ l := by
        rcases List.mem_cons.1 h with e | e
        · exact absurd e.symm hb
        · exact e
      obtain ⟨h1, h2, h3⟩ := tw_hit c l hl
      have e1 : (b :: l).takeWhile (· ≠ c) = b :: l.takeWhile (· ≠ c) := by simp [hb]
      have e2 : (b :: l).dropWhile (· ≠ c) = l.dropWhile (· ≠ c) := by simp [hb]
      rw [e1, e2]
      refine ⟨by rw [List.length_cons, List.length_cons]; omega, ?_, ?_⟩
      · rw [List.length_cons, List.take_succ_cons, ← h2]
      · rw [h3]; simp
/-- what strings.Cut answers at a separator of one byte -/
def cut1 (c : UInt8) (l : List UInt8) : Value := .tuple #[.string ⟨(l.takeWhile (· ≠ c)).toArray⟩, .string ⟨((l.dropWhile (· ≠ c)).drop 1).toArray⟩, .bool (decide (c ∈ l))]
set_option maxRecDepth 100000 in
set_option maxHeartbeats 1000000 in
theorem sindex1 (s : ByteArray) (c : UInt8) (w : World) : Calls Tryz.prog 50 #[.string s, .string ⟨#[c]⟩] w fun e w' => e = .returned (.int .i64 (Lib.indexByte s.data.toList c)) ∧ w = w' := by
  have HI : Hid (∀ w, Calls Tryz.prog 49 #[.string s, .int .u8 (c.toNat : Int)] w fun e w' => e = .returned (.int .i64 (Lib.indexByte s.data.toList c)) ∧ w' = w) := fun w => by
    have := shf.sindexByte s (c.toNat : Int) w
    simpa using this
  have hsz : (⟨#[c]⟩ : ByteArray).size = 1 := rfl
  go_enter Tryz.func50, Tryz.ntmps50
  go_wp2_with (go_at_call 49; refine (HI.out _).mono ?_; rintro e w' ⟨rfl, rfl⟩)
  · have h : ([c] == s.toList) = true := by assumption
    go_ret
    refine ⟨ret_int ?_, rfl⟩
    have h0 := Lib.zero s ⟨#[c]⟩ (Or.inr (by simpa using h))
    have h1 := Lib.one s ⟨#[c]⟩ rfl
    rw [h0] at h1
    have h2 : (⟨#[c]⟩ : ByteArray)[0] = c := rfl
    rw [h2] at h1
    simpa using h1
  · go_ret
    exact ⟨rfl, rfl⟩
set_option maxRecDepth 100000 in
set_option maxHeartbeats 1000000 in
theorem scut1 (s : ByteArray) (c : UInt8) (w : World) (hs : s.size ≤ 140737488351232) : Calls Tryz.prog 34 #[.string s, .string ⟨#[c]⟩] w fun e w' => e = .returned (cut1 c s.data.toList) ∧ ∃ n, w' = w.drewN n := by
  have HI := Lib.hid (sindex1 s c w)
  have hsz : (⟨#[c]⟩ : ByteArray).size = 1 := rfl
  by_cases hm : c ∈ s.data.toList
  · have HX := Lib.hid (ix_hit c _ hm)
    obtain ⟨t1, t2, t3⟩ := tw_hit c _ hm
    have hl : s.data.toList.length = s.size := by rw [Array.length_toList]; rfl
    rw [hl] at t1
    obtain ⟨i, hi⟩ : ∃ i, (s.data.toList.takeWhile (· ≠ c)).length = i := ⟨_, rfl⟩
    rw [hi] at t1 t2 t3 HX
    have HE1 : Hid ((⟨(s.data.toList.takeWhile (· ≠ c)).toArray⟩ : ByteArray) = s.extract 0 i) := by
      show _ = _
      rw [t2, Lib.extract_eq]; simp
    have HE2 : Hid ((⟨((s.data.toList.dropWhile (· ≠ c)).drop 1).toArray⟩ : ByteArray) = s.extract (i + 1) s.size) := by
      show _ = _
      rw [t3, Lib.extract_eq]
      have ht : List.take (s.size - (i + 1)) (List.drop (i + 1) s.data.toList) = List.drop (i + 1) s.data.toList :=
        List.take_of_length_le (by rw [List.length_drop, hl]; exact Nat.le_refl _)
      rw [ht]
    have HM := Lib.hid hm
    have c1 : (0 : Int) ≤ ↑i := by omega
    have c2 : (↑i : Int) ≤ ↑s.size := by omega
    have c3 : (0 : Int) ≤ ↑i + 1 := by omega
    have c4 : (↑i + 1 : Int) ≤ ↑s.size := by omega
    have c5 : IntKind.i64.wrap ((i : Int) + 1) = (i : Int) + 1 := by rw [IntKind.wrap_i64]; omega
    clear hm t2 t3 hl hi
    go_enter Tryz.func34, Tryz.ntmps34
    go_wp2_with (go_at_call 50; refine HI.out.mono ?_; rintro e w' ⟨rfl, rfl⟩; rw [HX.out])
    go_quiet (fail)
    go_wp2_with fail
    go_ret3
    exact ⟨by unfold cut1; rw [HE1.out, HE2.out, decide_eq_true HM.out]; rfl, _, rfl⟩
  · have HX := Lib.hid (ix_miss c _ hm)
    have HV : Hid (cut1 c s.data.toList = .tuple #[.string s, .string ⟨#[]⟩, .bool false]) := by
      show _ = _
      unfold cut1
      rw [(tw_miss c _ hm).1, (tw_miss c _ hm).2, Lib.mk_data, decide_eq_false hm]; rfl
    clear hm
    go_enter Tryz.func34, Tryz.ntmps34
    go_wp2_with (go_at_call 50; refine HI.out.mono ?_; rintro e w' ⟨rfl, rfl⟩; rw [HX.out])
    go_ret3
    exact ⟨by rw [HV.out]; rfl, 0, rfl⟩
set_option maxHeartbeats 1000000 in
theorem cut_c (s : ByteArray) (c : UInt8) (w : World) (hs : s.size ≤ 140737488351232) : Calls Tryz.prog 19 #[.string s, .string ⟨#[c]⟩] w fun e w' => e = .returned (cut1 c s.data.toList) ∧ ∃ n, w' = w.drewN n := by
  obtain ⟨A, B, F, hV⟩ : ∃ A B F, cut1 c s.data.toList = .tuple #[.string A, .string B, .bool F] := ⟨_, _, _, rfl⟩
  have h := scut1 s c w hs
  rw [hV] at h ⊢
  have HI := Lib.hid h
  clear h hV
  go_enter Tryz.func19, Tryz.ntmps19
  go_wp2_with (go_at_call 34; refine HI.out.mono ?_; rintro e w' ⟨rfl, n, rfl⟩)
  go_ret3
  exact ⟨rfl, n, rfl⟩
set_option maxHeartbeats 1000000 in
theorem clone_c (s : ByteArray) (w : World) (hs : s.size ≤ 281474976710656) : Calls Tryz.prog 24 #[.string s] w fun e w' => e = .returned (.string s) ∧ Below w.heap.size w w' := by
  have HI := Lib.hid (shf.sclone s w hs)
  go_enter Tryz.func24, Tryz.ntmps24
  go_wp2_with (go_at_call 40; refine HI.out.mono ?_; rintro e w' ⟨rfl, hb⟩)
  go_ret
  exact ⟨rfl, hb⟩
end Go.Proofs.YtjadginnaogjoaaGreatDoor.fdv
