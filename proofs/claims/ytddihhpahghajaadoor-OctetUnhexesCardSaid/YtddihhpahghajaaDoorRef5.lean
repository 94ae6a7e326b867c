/- The contracts of the reference's Unweb and Unbasic (texts up to 1048576 signs). -/
import Derived.Test.YtddihhpahghajaaDoorRef4
namespace Go.Proofs.YtddihhpahghajaaDoor.ref
open Go.RowKit
open Go.Proofs.YtddihhpahghajaaDoor.pl Go.Proofs.YtddihhpahghajaaDoor.oct
open Go.Lib (byteCells)

theorem unsix_web {o s : List UInt8} (h : webT o = s) : unsix true s = o := by rw [← h, ← text6w, unsix_text]
theorem unsix_bas (o : List UInt8) : unsix false (basB o) = o := by rw [← text6b, unsix_text]

set_option maxHeartbeats 1000000 in
theorem runweb_c (s : ByteArray) (w : World) (hs : s.size ≤ 1048576) :
    Calls Tryd.prog 24 #[.string s] w (ReadT webT s.data.toList w) := by
  have hsl : s.data.toList.length = s.size := by rw [Array.length_toList]; rfl
  have hul := unsix_len true s.data.toList
  rw [hsl] at hul
  have H := Lib.hid (unsixes_c s true w hs)
  obtain ⟨U, hU⟩ : ∃ U, unsix true s.data.toList = U := ⟨_, rfl⟩
  rw [hU] at H hul
  have hU2 : ∀ o, webT o = s.data.toList → o = U := fun o ho => by rw [← hU, unsix_web ho]
  have HU2 := Lib.hid hU2
  have hub : U.length ≤ 1048576 := by omega
  obtain ⟨X, hX⟩ : ∃ X, webT U = X := ⟨_, rfl⟩
  have HX : Hid (webT U = X) := hX
  have HS : Hid (s = ⟨s.data.toList.toArray⟩) := by show _ = _; simp
  clear hsl hul hU hU2 hX
  obtain ⟨l, hl⟩ : ∃ l, s.data.toList = l := ⟨_, rfl⟩
  rw [hl] at HU2 HS ⊢
  rw [HS.out] at H ⊢
  by_cases he : X = l
  · have hb : (X == l) = true := by simp [he]
    have HE := Lib.hid he
    clear he hl
    go_enter Tryd.func24, Tryd.ntmps24
    go_wp2_with fail
    refine H.out.mono ?_
    rintro e w1 ⟨v, rfl, hown, hb1⟩
    obtain ⟨_, p, cp, rfl, h8⟩ := own_in8 hown
    go_wp2_with fail
    refine (rweb_c p cp U _ h8 (by omega)).mono ?_
    rintro e w2 ⟨rfl, hb2⟩
    rw [HX.out]
    go_wp2_with fail
    go_ret2
    exact Or.inl ⟨U, _, by rw [HX.out, HE.out], rfl, own_below hown hb2, bnext hb1 hb2⟩
  · have hb : (X == l) = false := by simp [he]
    have HE := Lib.hid he
    clear he hl
    go_enter Tryd.func24, Tryd.ntmps24
    go_wp2_with fail
    refine H.out.mono ?_
    rintro e w1 ⟨v, rfl, hown, hb1⟩
    obtain ⟨_, p, cp, rfl, h8⟩ := own_in8 hown
    go_wp2_with fail
    refine (rweb_c p cp U _ h8 (by omega)).mono ?_
    rintro e w2 ⟨rfl, hb2⟩
    rw [HX.out]
    go_wp2_with fail
    go_ret2
    exact Or.inr ⟨fun o ho => HE.out (by rw [← HX.out, ← HU2.out o ho, ho]), rfl, bnext hb1 hb2⟩

theorem basB_lack (l : List UInt8) : lack (basB l).length ≤ 2 := by rw [basB_len, lack]; omega
/-- s without its last k signs, read: what k must be -/
theorem bas_at {o s : List UInt8} (h : basT o = s) : lack (basB o).length ≤ 2 ∧ lack (basB o).length ≤ s.length ∧ unsix false (s.take (s.length - lack (basB o).length)) = o := by
  refine ⟨basB_lack o, ?_, ?_⟩
  · rw [← h, basT, List.length_append, List.length_replicate]; omega
  · rw [← h, basT, List.length_append, List.length_replicate, Nat.add_sub_cancel, List.take_left, unsix_bas]

theorem ba_of {a : ByteArray} {l : List UInt8} (h : a.data.toList = l) : a = ⟨l.toArray⟩ := by subst h; simp
theorem cut_to (l : List UInt8) (n : Nat) : (⟨l.toArray⟩ : ByteArray).extract 0 n = ⟨(l.take n).toArray⟩ := ba_of (by rw [Lib.extract_data]; simp)

set_option maxHeartbeats 1000000 in
theorem runbas_c (s : ByteArray) (w : World) (hs : s.size ≤ 1048576) :
    Calls Tryd.prog 28 #[.string s] w (ReadT basT s.data.toList w) := by
  have HSL : Hid (s.data.toList.length = s.size) := by show _ = _; rw [Array.length_toList]; rfl
  have HS : Hid (s = ⟨s.data.toList.toArray⟩) := by show _ = _; simp
  obtain ⟨l, hl⟩ : ∃ l, s.data.toList = l := ⟨_, rfl⟩
  rw [hl] at HS HSL ⊢
  rw [← HSL.out] at hs
  rw [HS.out]
  clear hl HSL HS
  go_enter Tryd.func28, Tryd.ntmps28
  go_wp2_with fail
  go_loopg [4] 3 (fun g s4 wx => ∃ k : Nat, k + g = 3 ∧ s4 = .int .i64 k ∧ Hid (∀ o, basT o = l → k ≤ lack (basB o).length) ∧ Below w.heap.size w wx)
  case atStart => exact ⟨0, by omega, rfl, fun o _ => Nat.zero_le _, Below.refl _ _⟩
  case round =>
    obtain ⟨k, hkg, rfl, HN, hbx⟩ := hrel
    by_cases hk : k < 3 ∧ k ≤ l.length
    · obtain ⟨hk3, hkl⟩ := hk
      have hsz : (⟨(l.take (l.length - k)).toArray⟩ : ByteArray).size = l.length - k := by rw [size_mk, List.length_take]; omega
      have H := unsixes_c ⟨(l.take (l.length - k)).toArray⟩ false wr (by omega)
      rw [show (⟨(l.take (l.length - k)).toArray⟩ : ByteArray).data.toList = l.take (l.length - k) from by simp] at H
      have hul := unsix_len false (l.take (l.length - k))
      rw [List.length_take] at hul
      obtain ⟨U, hU⟩ : ∃ U, unsix false (l.take (l.length - k)) = U := ⟨_, rfl⟩
      rw [hU] at H hul
      have hub : U.length ≤ 1048576 := by omega
      have HH := Lib.hid H
      have HU2 : Hid (∀ o, basT o = l → lack (basB o).length = k → o = U) := by
        intro o ho hok
        have := (bas_at ho).2.2
        rw [hok, hU] at this
        exact this.symm
      obtain ⟨X, hX⟩ : ∃ X, basT U = X := ⟨_, rfl⟩
      have HX : Hid (basT U = X) := hX
      have HCUT := Lib.hid (cut_to l (l.length - k))
      clear H hul hU hX hsz
      by_cases he : X = l
      · have hb : (X == l) = true := by simp [he]
        have HE := Lib.hid he
        clear he
        go_wp2_with fail
        rw [HCUT.out]
        refine HH.out.mono ?_
        rintro e w1 ⟨v, rfl, hown, hb1⟩
        obtain ⟨_, p, cp, rfl, h8⟩ := own_in8 hown
        go_wp2_with fail
        refine (rbas_c p cp U _ h8 (by omega)).mono ?_
        rintro e w2 ⟨rfl, hb2⟩
        rw [HX.out]
        go_wp2_with fail
        go_ret2
        exact Or.inl ⟨U, _, by rw [HX.out, HE.out], rfl, own_mono (own_below hown hb2) hbx.size, bnext hbx (bnext hb1 hb2)⟩
      · have hb : (X == l) = false := by simp [he]
        have HE := Lib.hid he
        clear he
        go_wp2_with fail
        rw [HCUT.out]
        refine HH.out.mono ?_
        rintro e w1 ⟨v, rfl, hown, hb1⟩
        obtain ⟨_, p, cp, rfl, h8⟩ := own_in8 hown
        go_wp2_with fail
        refine (rbas_c p cp U _ h8 (by omega)).mono ?_
        rintro e w2 ⟨rfl, hb2⟩
        rw [HX.out]
        go_wp2_with fail
        go_roundg (2 - k)
        case measure => omega
        case rel => exact ⟨k + 1, by omega, by go_num, fun o ho => by
          have h1 := HN.out o ho
          by_cases h2 : lack (basB o).length = k
          · exact absurd (by rw [← HX.out, ← HU2.out o ho h2, ho]) HE.out
          · omega, bnext hbx (bnext hb1 hb2)⟩
    · by_cases hk3 : k < 3
      · have hkl : ¬ ((k : Int) ≤ (l.length : Int)) := by omega
        have HF : Hid (∀ o, basT o ≠ l) := fun o ho => by
          have := HN.out o ho
          have := (bas_at ho).2.1
          omega
        clear hk
        go_wp2_with fail
        go_ret2
        exact Or.inr ⟨HF.out, rfl, hbx⟩
      · have HF : Hid (∀ o, basT o ≠ l) := fun o ho => by
          have := HN.out o ho
          have := (bas_at ho).1
          omega
        clear hk
        go_wp2_with fail
        go_ret2
        exact Or.inr ⟨HF.out, rfl, hbx⟩
end Go.Proofs.YtddihhpahghajaaDoor.ref
