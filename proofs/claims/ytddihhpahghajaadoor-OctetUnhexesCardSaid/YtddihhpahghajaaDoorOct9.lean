/- The contracts of octet's exported calls Hex, Web, Basic, Unhex, Unweb, Unbasic (rows up to 2097152 bytes, texts up to 4194304 signs). -/
import Derived.Test.YtddihhpahghajaaDoorOct8
import Derived.Test.YtddihhpahghajaaDoorOct5
import Derived.Test.YtddihhpahghajaaDoorShTrim
import Derived.Test.YtddihhpahghajaaDoorShRep
namespace Go.Proofs.YtddihhpahghajaaDoor.oct
open Go.RowKit
open Go.Proofs.YtddihhpahghajaaDoor.pl
open Go.Lib (byteCells)

def hexS : ByteArray := ⟨#[48, 49, 50, 51, 52, 53, 54, 55, 56, 57, 97, 98, 99, 100, 101, 102]⟩
def webS : ByteArray := ⟨#[65, 66, 67, 68, 69, 70, 71, 72, 73, 74, 75, 76, 77, 78, 79, 80, 81, 82, 83, 84, 85, 86, 87, 88, 89, 90, 97, 98, 99, 100, 101, 102, 103, 104, 105, 106, 107, 108, 109, 110, 111, 112, 113, 114, 115, 116, 117, 118, 119, 120, 121, 122, 48, 49, 50, 51, 52, 53, 54, 55, 56, 57, 45, 95]⟩
def basS : ByteArray := ⟨#[65, 66, 67, 68, 69, 70, 71, 72, 73, 74, 75, 76, 77, 78, 79, 80, 81, 82, 83, 84, 85, 86, 87, 88, 89, 90, 97, 98, 99, 100, 101, 102, 103, 104, 105, 106, 107, 108, 109, 110, 111, 112, 113, 114, 115, 116, 117, 118, 119, 120, 121, 122, 48, 49, 50, 51, 52, 53, 54, 55, 56, 57, 43, 47]⟩
theorem hexS_inj : ∀ a b, a < 2 ^ 4 → b < 2 ^ 4 → sgS hexS a = sgS hexS b → a = b := by
  have h : ∀ a, a < 16 → ∀ b, b < 16 → sgS hexS a = sgS hexS b → a = b := by decide +kernel
  exact fun a b ha hb => h a ha b hb
theorem webS_inj : ∀ a b, a < 2 ^ 6 → b < 2 ^ 6 → sgS webS a = sgS webS b → a = b := by
  have h : ∀ a, a < 64 → ∀ b, b < 64 → sgS webS a = sgS webS b → a = b := by decide +kernel
  exact fun a b ha hb => h a ha b hb
theorem basS_inj : ∀ a b, a < 2 ^ 6 → b < 2 ^ 6 → sgS basS a = sgS basS b → a = b := by
  have h : ∀ a, a < 64 → ∀ b, b < 64 → sgS basS a = sgS basS b → a = b := by decide +kernel
  exact fun a b ha hb => h a ha b hb
theorem webS_sg6 : ∀ a, a < 64 → sg6 true a = sgS webS a := by decide +kernel
theorem basS_sg6 : ∀ a, a < 64 → sg6 false a = sgS basS a := by decide +kernel
theorem basS_fill : ∀ a, a < 64 → sgS basS a ≠ 61 := by decide +kernel
theorem hexS_dig : ∀ a : Nat, a < 16 → ((sgS hexS a).toNat : Int) = dig a := by decide +kernel

def hexT (l : List UInt8) : List UInt8 := text (sgS hexS) (enc 4 l)
def webT (l : List UInt8) : List UInt8 := text (sgS webS) (enc 6 l)
def basB (l : List UInt8) : List UInt8 := text (sgS basS) (enc 6 l)
def basT (l : List UInt8) : List UInt8 := basB l ++ List.replicate (lack (basB l).length) 61

/-- what a reading of a text comes to: the bytes of which T is the text, or 3 (ErrForm), if there are none -/
def ReadT (T : List UInt8 → List UInt8) (s : List UInt8) (w : World) (e : Ending) (w' : World) : Prop :=
  (∃ out v, T out = s ∧ e = .returned (.tuple #[v, .int .i64 0]) ∧ w'.ownsRow w.heap.size 5 1 v out.length (byteCells out) ∧ Below w.heap.size w w') ∨
  ((∀ o, T o ≠ s) ∧ e = .returned (.tuple #[.slice none 0 0, .int .i64 3]) ∧ Below w.heap.size w w')

theorem text_len (sg : Nat → UInt8) (ds : List Nat) : (text sg ds).length = ds.length := by simp [text]
theorem enc_len4 (l : List UInt8) : (enc 4 l).length = 2 * l.length := by
  obtain ⟨_, p, hp, h⟩ := enc_tells (w := 4) (by decide) l
  have := congrArg List.length h
  rw [flat_len, List.length_append, bitsOf_len, List.length_replicate] at this
  omega
theorem enc_len6 (l : List UInt8) : (enc 6 l).length = (4 * l.length + 2) / 3 := by
  obtain ⟨_, p, hp, h⟩ := enc_tells (w := 6) (by decide) l
  have := congrArg List.length h
  rw [flat_len, List.length_append, bitsOf_len, List.length_replicate] at this
  omega
theorem hexT_len (l : List UInt8) : (hexT l).length = 2 * l.length := by rw [hexT, text_len, enc_len4]
theorem webT_len (l : List UInt8) : (webT l).length = (4 * l.length + 2) / 3 := by rw [webT, text_len, enc_len6]
theorem basB_len (l : List UInt8) : (basB l).length = (4 * l.length + 2) / 3 := by rw [basB, text_len, enc_len6]
theorem basT_len (l : List UInt8) : (basT l).length = (l.length + 2) / 3 * 4 := by
  rw [basT, List.length_append, List.length_replicate, basB_len, lack]; omega

set_option maxHeartbeats 400000 in
theorem hex_c (p : Option Addr) (cp : Nat) (l : List UInt8) (w : World) (hp : In8 w p l) (hl : l.length ≤ 70368744177664) :
    Calls Tryd.prog 16 #[.slice p l.length cp] w fun e w' => e = .returned (.string ⟨(hexT l).toArray⟩) ∧ Below w.heap.size w w' := by
  have H := Lib.hid (spell_c p cp l hexS 4 w hp (by omega) (Or.inl rfl) rfl)
  go_enter Tryd.func16, Tryd.ntmps16
  go_wp2_with (go_at_call 34; refine H.out.mono ?_; rintro e w1 ⟨rfl, hb⟩)
  go_ret
  exact ⟨rfl, hb⟩
set_option maxHeartbeats 400000 in
theorem web_c (p : Option Addr) (cp : Nat) (l : List UInt8) (w : World) (hp : In8 w p l) (hl : l.length ≤ 105553116266496) :
    Calls Tryd.prog 21 #[.slice p l.length cp] w fun e w' => e = .returned (.string ⟨(webT l).toArray⟩) ∧ Below w.heap.size w w' := by
  have H := Lib.hid (spell_c p cp l webS 6 w hp (by omega) (Or.inr rfl) rfl)
  go_enter Tryd.func21, Tryd.ntmps21
  go_wp2_with (go_at_call 34; refine H.out.mono ?_; rintro e w1 ⟨rfl, hb⟩)
  go_ret
  exact ⟨rfl, hb⟩
set_option maxHeartbeats 400000 in
theorem unhex_c (s : ByteArray) (w : World) (hs : s.size ≤ 140737488355328) :
    Calls Tryd.prog 18 #[.string s] w (ReadT hexT s.data.toList w) := by
  have H := Lib.hid (unspell_c s hexS 4 w hs (Or.inl rfl) rfl hexS_inj)
  go_enter Tryd.func18, Tryd.ntmps18
  go_wp2_with (go_at_call 36; refine H.out.mono ?_; rintro e w1 (⟨out, v, h1, rfl, h2, h3⟩ | ⟨h1, rfl, h3⟩))
  all_goals go_ret2
  · exact Or.inl ⟨out, v, h1, rfl, h2, h3⟩
  · exact Or.inr ⟨h1, rfl, h3⟩
set_option maxHeartbeats 400000 in
theorem unweb_c (s : ByteArray) (w : World) (hs : s.size ≤ 140737488355328) :
    Calls Tryd.prog 23 #[.string s] w (ReadT webT s.data.toList w) := by
  have H := Lib.hid (unspell_c s webS 6 w hs (Or.inr rfl) rfl webS_inj)
  go_enter Tryd.func23, Tryd.ntmps23
  go_wp2_with (go_at_call 36; refine H.out.mono ?_; rintro e w1 (⟨out, v, h1, rfl, h2, h3⟩ | ⟨h1, rfl, h3⟩))
  all_goals go_ret2
  · exact Or.inl ⟨out, v, h1, rfl, h2, h3⟩
  · exact Or.inr ⟨h1, rfl, h3⟩
end Go.Proofs.YtddihhpahghajaaDoor.oct
