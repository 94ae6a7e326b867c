/- The contracts of the developers' quote at the closures of Quote and Print, and of Quote. Bounds as each theorem says. -/
import Derived.Test.YtfgenbmobfbifaaFdv3
namespace Go.Proofs.Ytfgenbmobfbifaa.fdv
open Go.RowKit
open Go.Proofs.Ytfgenbmobfbifaa.oct Go.Proofs.Ytfgenbmobfbifaa.ref Go.Proofs.Ytfgenbmobfbifaa.fld
open Go.Lib (byteCells)

def plainL : List UInt8 := [65, 66, 67, 68, 69, 70, 71, 72, 73, 74, 75, 76, 77, 78, 79, 80, 81, 82, 83, 84, 85, 86, 87, 88, 89, 90, 97, 98, 99, 100, 101, 102, 103, 104, 105, 106, 107, 108, 109, 110, 111, 112, 113, 114, 115, 116, 117, 118, 119, 120, 121, 122, 48, 49, 50, 51, 52, 53, 54, 55, 56, 57, 42, 45, 46, 95]
theorem plain_ix (c : UInt8) : if itself c = true then 0 ≤ Lib.indexByte plainL c else Lib.indexByte plainL c < 0 := by
  revert c
  exact fun c => all_bytes (p := fun c => if itself c = true then 0 ≤ Lib.indexByte plainL c else Lib.indexByte plainL c < 0) (by decide +kernel) c
theorem plainIx_c (c : UInt8) (w : World) : Calls Try.prog 39 #[.string ⟨plainL.toArray⟩, .int .u8 (c.toNat : Int)] w fun e w' => e = .returned (.int .i64 (Lib.indexByte plainL c)) ∧ w' = w := by
  have := sh.indexByte ⟨plainL.toArray⟩ (c.toNat : Int) w
  rw [show (⟨plainL.toArray⟩ : ByteArray).data.toList = plainL from rfl, show (c.toNat : Int).toNat.toUInt8 = c by simp] at this
  exact this
set_option maxHeartbeats 400000 in
/-- Quote's closure: it takes every sign -/
theorem putQ_c (B b : Nat) (acc : List UInt8) (c : UInt8) (w : World) (h : IsB B b acc w) (hlen : acc.length + 1 ≤ 140737488355328) (hBw : B ≤ w.heap.size) :
    Calls Try.prog 25 #[.int .u8 (c.toNat : Int), .pointer (some ⟨b, 0, none⟩)] w fun e w' => e = .returned (.bool true) ∧ IsB B b (acc ++ [c]) w' ∧ BK B b w w' := by
  have HI := Lib.hid (isB_write B b acc c w h hlen hBw)
  clear h
  go_enter Try.func25, Try.ntmps25
  go_wp2_with (go_at_call 26; refine HI.out.mono ?_; rintro e w' ⟨rfl, h1, h2⟩)
  go_ret
  exact ⟨rfl, h1, h2⟩
theorem putQ_q (B b : Nat) (acc : List UInt8) (c : UInt8) (m : Int) (hm : m = (c.toNat : Int)) (w : World) (h : IsB B b acc w) (hlen : acc.length + 1 ≤ 140737488355328) (hBw : B ≤ w.heap.size) :
    Calls Try.prog 25 #[.int .u8 m, .pointer (some ⟨b, 0, none⟩)] w fun e w' => e = .returned (.bool true) ∧ IsB B b (acc ++ [c]) w' ∧ BK B b w w' := by
  subst hm; exact putQ_c B b acc c w h hlen hBw
def hexB : ByteArray := ⟨#[48, 49, 50, 51, 52, 53, 54, 55, 56, 57, 65, 66, 67, 68, 69, 70]⟩
theorem hex_at : ∀ n : Fin 16, (hexB[n.val]'(by have := n.isLt; exact this)).toNat = (sg n.val).toNat := by decide
set_option maxHeartbeats 400000 in
/-- Print's closure: it takes a sign where there is room -/
theorem putP_c (B b : Nat) (acc : List UInt8) (c : UInt8) (w : World) (h : IsB B b acc w) (hlen : acc.length < 16384) (hBw : B ≤ w.heap.size) :
    Calls Try.prog 33 #[.int .u8 (c.toNat : Int), .pointer (some ⟨b, 0, none⟩)] w fun e w' => e = .returned (.bool true) ∧ IsB B b (acc ++ [c]) w' ∧ BK B b w w' := by
  have HI := Lib.hid (isB_write B b acc c w h (by omega) hBw)
  have HL := Lib.hid (sh.blen B b _ w h)
  rw [byteCells_len] at HL
  have hne : ((acc.length : Int) == 16384) = false := by rw [beq_eq_false_iff_ne]; omega
  clear h
  go_enter Try.func33, Try.ntmps33
  go_wp2_with (go_at_call 34; refine HL.out.mono ?_; rintro e w' ⟨rfl, rfl⟩)
  refine HI.out.mono ?_
  rintro e w2 ⟨rfl, h1, h2⟩
  go_wp2_with fail
  go_ret
  exact ⟨rfl, h1, h2⟩
set_option maxHeartbeats 400000 in
theorem putP_full (B b : Nat) (acc : List UInt8) (c : UInt8) (w : World) (h : IsB B b acc w) (hlen : acc.length = 16384) :
    Calls Try.prog 33 #[.int .u8 (c.toNat : Int), .pointer (some ⟨b, 0, none⟩)] w fun e w' => e = .returned (.bool false) ∧ w' = w := by
  have HL := Lib.hid (sh.blen B b _ w h)
  rw [byteCells_len, hlen] at HL
  clear h hlen
  go_enter Try.func33, Try.ntmps33
  go_wp2_with (go_at_call 34; refine HL.out.mono ?_; rintro e w' ⟨rfl, rfl⟩)
  go_ret
  exact ⟨rfl, rfl⟩
theorem putP_q (B b : Nat) (acc : List UInt8) (c : UInt8) (m : Int) (hm : m = (c.toNat : Int)) (w : World) (h : IsB B b acc w) (hlen : acc.length < 16384) (hBw : B ≤ w.heap.size) :
    Calls Try.prog 33 #[.int .u8 m, .pointer (some ⟨b, 0, none⟩)] w fun e w' => e = .returned (.bool true) ∧ IsB B b (acc ++ [c]) w' ∧ BK B b w w' := by
  subst hm; exact putP_c B b acc c w h hlen hBw
theorem putP_fullq (B b : Nat) (acc : List UInt8) (c : UInt8) (m : Int) (hm : m = (c.toNat : Int)) (w : World) (h : IsB B b acc w) (hlen : acc.length = 16384) :
    Calls Try.prog 33 #[.int .u8 m, .pointer (some ⟨b, 0, none⟩)] w fun e w' => e = .returned (.bool false) ∧ w' = w := by
  subst hm; exact putP_full B b acc c w h hlen
theorem quote_take_le (l : List UInt8) (k : Nat) : (quote (l.take k)).length ≤ (quote l).length := by
  have h := quote_append (l.take k) (l.drop k)
  rw [List.take_append_drop] at h
  rw [h, List.length_append]
  omega
set_option maxRecDepth 8000 in
set_option maxHeartbeats 4000000 in
theorem quoteQ_c (B b : Nat) (acc : List UInt8) (s : ByteArray) (w : World) (h : IsB B b acc w) (hBw : B ≤ w.heap.size) (hsz : s.size ≤ 140737488351232) (hs : acc.length + (quote s.data.toList).length ≤ 140737488355328) :
    Calls Try.prog 24 #[.string s, .func (.func 25) #[] #[.pointer (some ⟨b, 0, none⟩)]] w fun e w' => e = .returned (.bool true) ∧ IsB B b (acc ++ quote s.data.toList) w' ∧ BK B b w w' := by
  have HSL : Hid (s.data.toList.length = s.size) := by show _ = _; rw [Array.length_toList]; rfl
  go_enter Try.func24, Try.ntmps24
  go_wp2_with fail
  go_loopg [4, 5, 6, 7, 10] s.size (fun g s4 s5 s6 s7 s10 wx => ∃ k : Nat, k + g = s.size ∧ s10 = .int .i64 k ∧ IsB B b (acc ++ quote (s.data.toList.take k)) wx ∧ BK B b w wx)
  case atStart => exact ⟨0, by omega, rfl, by simpa [quote] using h, BK.refl _ _ _⟩
  case round =>
    obtain ⟨k, hkg, rfl, hB, hb⟩ := hrel
    cases gk with
    | zero =>
      have hkz : ¬ ((k : Int) < (s.size : Int)) := by omega
      have HK : Hid (s.data.toList.take k = s.data.toList) := List.take_of_length_le (by rw [HSL.out]; omega)
      rw [HK.out] at hB
      have HB := Lib.hid hB
      have HBX := Lib.hid hb
      clear hB hb
      go_wp2_with fail
      go_ret
      exact ⟨rfl, HB.out, HBX.out⟩
    | succ g =>
      have hkz : (k : Int) < (s.size : Int) := by omega
      have hks : k < s.size := by omega
      have HQ := Lib.hid (quote_snoc (s.data.toList.take k) s[k])
      have HT := Lib.hid (take_text s k hks)
      have hle := quote_take_le s.data.toList (k + 1)
      obtain ⟨c, hc⟩ : ∃ c, s[k] = c := ⟨_, rfl⟩
      rw [hc] at HQ HT
      obtain ⟨L, hL⟩ : ∃ L, acc ++ quote (s.data.toList.take k) = L := ⟨_, rfl⟩
      rw [hL] at hB
      have HL : Hid (acc ++ quote (s.data.toList.take (k + 1)) = L ++ qB c) := by show _ = _; rw [HT.out, HQ.out, ← hL, List.append_assoc]
      have hLn : L.length + (qB c).length ≤ acc.length + (quote s.data.toList).length := by
        have := congrArg List.length HL.out
        rw [List.length_append, List.length_append] at this
        omega
      have hcc : (s[k].toNat : Int) = (c.toNat : Int) := by rw [hc]
      have HIX := Lib.hid (fun w => plainIx_c c w)
      have hpx := plain_ix c
      obtain ⟨x, hx⟩ : ∃ x, Lib.indexByte plainL c = x := ⟨_, rfl⟩
      rw [hx] at HIX hpx
      clear hL hx HQ HT hle
      have hBr : B ≤ wr.heap.size := Nat.le_trans hBw hb.size
      by_cases h1 : itself c = true
      · rw [if_pos h1] at hpx
        have HQB : Hid (qB c = [c]) := by show _ = _; unfold qB; rw [if_pos h1]
        rw [HQB.out] at HL hLn
        rw [List.length_singleton] at hLn
        clear h1
        go_wp2_with (go_at_call 39; refine (HIX.out _).mono ?_; rintro e w' ⟨rfl, rfl⟩)
        refine (putQ_c B b L c _ hB (by omega) hBr).mono ?_
        rintro e w2 ⟨rfl, hB2, hb2⟩
        have hb3 := hb.trans hb2
        clear hB hb hb2
        go_wp2_with fail
        go_roundg g
        case measure => omega
        case rel => exact ⟨k + 1, by omega, by go_num, by rw [HL.out]; exact hB2, hb3⟩
      · rw [if_neg h1] at hpx
        by_cases h2 : c = 32
        · have HQB : Hid (qB c = [43]) := by show _ = _; unfold qB; rw [if_neg h1, if_pos h2]
          rw [HQB.out] at HL hLn
          rw [List.length_singleton] at hLn
          have hb32 : ((c.toNat : Int) == 32) = true := by rw [h2]; rfl
          clear h1 h2
          go_wp2_with (go_at_call 39; refine (HIX.out _).mono ?_; rintro e w' ⟨rfl, rfl⟩)
          refine (putQ_c B b L 43 _ hB (by omega) hBr).mono ?_
          rintro e w2 ⟨rfl, hB2, hb2⟩
          have hb3 := hb.trans hb2
          clear hB hb hb2
          go_wp2_with fail
          go_roundg g
          case measure => omega
          case rel => exact ⟨k + 1, by omega, by go_num, by rw [HL.out]; exact hB2, hb3⟩
        · have HQB : Hid (qB c = [37, sg (c.toNat / 16), sg (c.toNat % 16)]) := by show _ = _; unfold qB; rw [if_neg h1, if_neg h2]
          rw [HQB.out] at HL hLn
          simp only [List.length_cons, List.length_nil] at hLn
          have hb32 : ((c.toNat : Int) == 32) = false := ne_byte h2
          have hcl := c.toNat_lt
          clear h1 h2
          go_wp2_with (go_at_call 39; refine (HIX.out _).mono ?_; rintro e w' ⟨rfl, rfl⟩)
          refine (putQ_c B b L 37 _ hB (by omega) hBr).mono ?_
          rintro e w2 ⟨rfl, hB2, hb2⟩
          have hb3 := hb.trans hb2
          clear hB hb hb2
          go_wp2_with fail
          refine (putQ_q B b (L ++ [37]) (sg (c.toNat / 16)) _ (congrArg Nat.cast (hex_at ⟨c.toNat / 16, by omega⟩)) _ hB2 (by rw [List.length_append, List.length_singleton]; omega) (Nat.le_trans hBw hb3.size)).mono ?_
          rintro e w3 ⟨rfl, hB3, hb4⟩
          have hb5 := hb3.trans hb4
          clear hB2 hb3 hb4
          go_wp2_with fail
          refine (putQ_q B b (L ++ [37] ++ [sg (c.toNat / 16)]) (sg (c.toNat % 16)) _ (congrArg Nat.cast (hex_at ⟨c.toNat % 16, by omega⟩)) _ hB3 (by rw [List.length_append, List.length_append, List.length_singleton, List.length_singleton]; omega) (Nat.le_trans hBw hb5.size)).mono ?_
          rintro e w4 ⟨rfl, hB4, hb6⟩
          have hb7 := hb5.trans hb6
          clear hB3 hb5 hb6
          go_wp2_with fail
          go_roundg g
          case measure => omega
          case rel => exact ⟨k + 1, by omega, by go_num, by rw [HL.out]; simpa using hB4, hb7⟩
set_option maxRecDepth 8000 in
set_option maxHeartbeats 4000000 in
theorem quoteP_c (B b : Nat) (acc : List UInt8) (s : ByteArray) (w : World) (h : IsB B b acc w) (hBw : B ≤ w.heap.size) (hsz : s.size ≤ 140737488351232) (hs : acc.length + (quote s.data.toList).length ≤ 16384) :
    Calls Try.prog 24 #[.string s, .func (.func 33) #[] #[.pointer (some ⟨b, 0, none⟩)]] w fun e w' => e = .returned (.bool true) ∧ IsB B b (acc ++ quote s.data.toList) w' ∧ BK B b w w' := by
  have HSL : Hid (s.data.toList.length = s.size) := by show _ = _; rw [Array.length_toList]; rfl
  go_enter Try.func24, Try.ntmps24
  go_wp2_with fail
  go_loopg [4, 5, 6, 7, 10] s.size (fun g s4 s5 s6 s7 s10 wx => ∃ k : Nat, k + g = s.size ∧ s10 = .int .i64 k ∧ IsB B b (acc ++ quote (s.data.toList.take k)) wx ∧ BK B b w wx)
  case atStart => exact ⟨0, by omega, rfl, by simpa [quote] using h, BK.refl _ _ _⟩
  case round =>
    obtain ⟨k, hkg, rfl, hB, hb⟩ := hrel
    cases gk with
    | zero =>
      have hkz : ¬ ((k : Int) < (s.size : Int)) := by omega
      have HK : Hid (s.data.toList.take k = s.data.toList) := List.take_of_length_le (by rw [HSL.out]; omega)
      rw [HK.out] at hB
      have HB := Lib.hid hB
      have HBX := Lib.hid hb
      clear hB hb
      go_wp2_with fail
      go_ret
      exact ⟨rfl, HB.out, HBX.out⟩
    | succ g =>
      have hkz : (k : Int) < (s.size : Int) := by omega
      have hks : k < s.size := by omega
      have HQ := Lib.hid (quote_snoc (s.data.toList.take k) s[k])
      have HT := Lib.hid (take_text s k hks)
      have hle := quote_take_le s.data.toList (k + 1)
      obtain ⟨c, hc⟩ : ∃ c, s[k] = c := ⟨_, rfl⟩
      rw [hc] at HQ HT
      obtain ⟨L, hL⟩ : ∃ L, acc ++ quote (s.data.toList.take k) = L := ⟨_, rfl⟩
      rw [hL] at hB
      have HL : Hid (acc ++ quote (s.data.toList.take (k + 1)) = L ++ qB c) := by show _ = _; rw [HT.out, HQ.out, ← hL, List.append_assoc]
      have hLn : L.length + (qB c).length ≤ acc.length + (quote s.data.toList).length := by
        have := congrArg List.length HL.out
        rw [List.length_append, List.length_append] at this
        omega
      have hcc : (s[k].toNat : Int) = (c.toNat : Int) := by rw [hc]
      have HIX := Lib.hid (fun w => plainIx_c c w)
      have hpx := plain_ix c
      obtain ⟨x, hx⟩ : ∃ x, Lib.indexByte plainL c = x := ⟨_, rfl⟩
      rw [hx] at HIX hpx
      clear hL hx HQ HT hle
      have hBr : B ≤ wr.heap.size := Nat.le_trans hBw hb.size
      by_cases h1 : itself c = true
      · rw [if_pos h1] at hpx
        have HQB : Hid (qB c = [c]) := by show _ = _; unfold qB; rw [if_pos h1]
        rw [HQB.out] at HL hLn
        rw [List.length_singleton] at hLn
        clear h1
        go_wp2_with (go_at_call 39; refine (HIX.out _).mono ?_; rintro e w' ⟨rfl, rfl⟩)
        refine (putP_c B b L c _ hB (by omega) hBr).mono ?_
        rintro e w2 ⟨rfl, hB2, hb2⟩
        have hb3 := hb.trans hb2
        clear hB hb hb2
        go_wp2_with fail
        go_roundg g
        case measure => omega
        case rel => exact ⟨k + 1, by omega, by go_num, by rw [HL.out]; exact hB2, hb3⟩
      · rw [if_neg h1] at hpx
        by_cases h2 : c = 32
        · have HQB : Hid (qB c = [43]) := by show _ = _; unfold qB; rw [if_neg h1, if_pos h2]
          rw [HQB.out] at HL hLn
          rw [List.length_singleton] at hLn
          have hb32 : ((c.toNat : Int) == 32) = true := by rw [h2]; rfl
          clear h1 h2
          go_wp2_with (go_at_call 39; refine (HIX.out _).mono ?_; rintro e w' ⟨rfl, rfl⟩)
          refine (putP_c B b L 43 _ hB (by omega) hBr).mono ?_
          rintro e w2 ⟨rfl, hB2, hb2⟩
          have hb3 := hb.trans hb2
          clear hB hb hb2
          go_wp2_with fail
          go_roundg g
          case measure => omega
          case rel => exact ⟨k + 1, by omega, by go_num, by rw [HL.out]; exact hB2, hb3⟩
        · have HQB : Hid (qB c = [37, sg (c.toNat / 16), sg (c.toNat % 16)]) := by show _ = _; unfold qB; rw [if_neg h1, if_neg h2]
          rw [HQB.out] at HL hLn
          simp only [List.length_cons, List.length_nil] at hLn
          have hb32 : ((c.toNat : Int) == 32) = false := ne_byte h2
          have hcl := c.toNat_lt
          clear h1 h2
          go_wp2_with (go_at_call 39; refine (HIX.out _).mono ?_; rintro e w' ⟨rfl, rfl⟩)
          refine (putP_c B b L 37 _ hB (by omega) hBr).mono ?_
          rintro e w2 ⟨rfl, hB2, hb2⟩
          have hb3 := hb.trans hb2
          clear hB hb hb2
          go_wp2_with fail
          refine (putP_q B b (L ++ [37]) (sg (c.toNat / 16)) _ (congrArg Nat.cast (hex_at ⟨c.toNat / 16, by omega⟩)) _ hB2 (by rw [List.length_append, List.length_singleton]; omega) (Nat.le_trans hBw hb3.size)).mono ?_
          rintro e w3 ⟨rfl, hB3, hb4⟩
          have hb5 := hb3.trans hb4
          clear hB2 hb3 hb4
          go_wp2_with fail
          refine (putP_q B b (L ++ [37] ++ [sg (c.toNat / 16)]) (sg (c.toNat % 16)) _ (congrArg Nat.cast (hex_at ⟨c.toNat % 16, by omega⟩)) _ hB3 (by rw [List.length_append, List.length_append, List.length_singleton, List.length_singleton]; omega) (Nat.le_trans hBw hb5.size)).mono ?_
          rintro e w4 ⟨rfl, hB4, hb6⟩
          have hb7 := hb5.trans hb6
          clear hB3 hb5 hb6
          go_wp2_with fail
          go_roundg g
          case measure => omega
          case rel => exact ⟨k + 1, by omega, by go_num, by rw [HL.out]; simpa using hB4, hb7⟩
set_option maxRecDepth 8000 in
set_option maxHeartbeats 4000000 in
theorem quoteP_no (B b : Nat) (acc : List UInt8) (s : ByteArray) (w : World) (h : IsB B b acc w) (hBw : B ≤ w.heap.size) (hsz : s.size ≤ 140737488351232) (ha : acc.length ≤ 16384) (hs : 16384 < acc.length + (quote s.data.toList).length) :
    Calls Try.prog 24 #[.string s, .func (.func 33) #[] #[.pointer (some ⟨b, 0, none⟩)]] w fun e w' => e = .returned (.bool false) ∧ BK B b w w' := by
  have HSL : Hid (s.data.toList.length = s.size) := by show _ = _; rw [Array.length_toList]; rfl
  go_enter Try.func24, Try.ntmps24
  go_wp2_with fail
  go_loopg [4, 5, 6, 7, 10] s.size (fun g s4 s5 s6 s7 s10 wx => ∃ k : Nat, k + g = s.size ∧ s10 = .int .i64 k ∧ IsB B b (acc ++ quote (s.data.toList.take k)) wx ∧ (acc ++ quote (s.data.toList.take k)).length ≤ 16384 ∧ BK B b w wx)
  case atStart => exact ⟨0, by omega, rfl, by simpa [quote] using h, by simpa [quote] using ha, BK.refl _ _ _⟩
  case round =>
    obtain ⟨k, hkg, rfl, hB, hlk, hb⟩ := hrel
    cases gk with
    | zero =>
      have hkz : ¬ ((k : Int) < (s.size : Int)) := by omega
      have HK : Hid (s.data.toList.take k = s.data.toList) := List.take_of_length_le (by rw [HSL.out]; omega)
      exfalso
      rw [HK.out, List.length_append] at hlk
      omega
    | succ g =>
      have hkz : (k : Int) < (s.size : Int) := by omega
      have hks : k < s.size := by omega
      have HQ := Lib.hid (quote_snoc (s.data.toList.take k) s[k])
      have HT := Lib.hid (take_text s k hks)
      have hle := quote_take_le s.data.toList (k + 1)
      obtain ⟨c, hc⟩ : ∃ c, s[k] = c := ⟨_, rfl⟩
      rw [hc] at HQ HT
      obtain ⟨L, hL⟩ : ∃ L, acc ++ quote (s.data.toList.take k) = L := ⟨_, rfl⟩
      rw [hL] at hB hlk
      have HL : Hid (acc ++ quote (s.data.toList.take (k + 1)) = L ++ qB c) := by show _ = _; rw [HT.out, HQ.out, ← hL, List.append_assoc]
      have hLn : L.length + (qB c).length ≤ acc.length + (quote s.data.toList).length := by
        have := congrArg List.length HL.out
        rw [List.length_append, List.length_append] at this
        omega
      have hcc : (s[k].toNat : Int) = (c.toNat : Int) := by rw [hc]
      have HIX := Lib.hid (fun w => plainIx_c c w)
      have hpx := plain_ix c
      obtain ⟨x, hx⟩ : ∃ x, Lib.indexByte plainL c = x := ⟨_, rfl⟩
      rw [hx] at HIX hpx
      clear hL hx HQ HT hle
      have hBr : B ≤ wr.heap.size := Nat.le_trans hBw hb.size
      by_cases h1 : itself c = true
      · rw [if_pos h1] at hpx
        have HQB : Hid (qB c = [c]) := by show _ = _; unfold qB; rw [if_pos h1]
        rw [HQB.out] at HL hLn
        rw [List.length_singleton] at hLn
        clear h1
        by_cases hf : L.length = 16384
        · go_wp2_with (go_at_call 39; refine (HIX.out _).mono ?_; rintro e w' ⟨rfl, rfl⟩)
          refine (putP_full B b L c _ hB (by omega)).mono ?_
          rintro e w9 ⟨rfl, rfl⟩
          go_wp2_with fail
          go_ret
          exact ⟨rfl, hb⟩
        · go_wp2_with (go_at_call 39; refine (HIX.out _).mono ?_; rintro e w' ⟨rfl, rfl⟩)
          refine (putP_c B b L c _ hB (by omega) hBr).mono ?_
          rintro e w2 ⟨rfl, hB2, hb2⟩
          have hb3 := hb.trans hb2
          clear hB hb hb2
          go_wp2_with fail
          go_roundg g
          case measure => omega
          case rel => exact ⟨k + 1, by omega, by go_num, by rw [HL.out]; exact hB2, by rw [HL.out, List.length_append, List.length_singleton]; omega, hb3⟩
      · rw [if_neg h1] at hpx
        by_cases h2 : c = 32
        · have HQB : Hid (qB c = [43]) := by show _ = _; unfold qB; rw [if_neg h1, if_pos h2]
          rw [HQB.out] at HL hLn
          rw [List.length_singleton] at hLn
          have hb32 : ((c.toNat : Int) == 32) = true := by rw [h2]; rfl
          clear h1 h2
          by_cases hf : L.length = 16384
          · go_wp2_with (go_at_call 39; refine (HIX.out _).mono ?_; rintro e w' ⟨rfl, rfl⟩)
            refine (putP_full B b L 43 _ hB (by omega)).mono ?_
            rintro e w9 ⟨rfl, rfl⟩
            go_wp2_with fail
            go_ret
            exact ⟨rfl, hb⟩
          · go_wp2_with (go_at_call 39; refine (HIX.out _).mono ?_; rintro e w' ⟨rfl, rfl⟩)
            refine (putP_c B b L 43 _ hB (by omega) hBr).mono ?_
            rintro e w2 ⟨rfl, hB2, hb2⟩
            have hb3 := hb.trans hb2
            clear hB hb hb2
            go_wp2_with fail
            go_roundg g
            case measure => omega
            case rel => exact ⟨k + 1, by omega, by go_num, by rw [HL.out]; exact hB2, by rw [HL.out, List.length_append, List.length_singleton]; omega, hb3⟩
        · have HQB : Hid (qB c = [37, sg (c.toNat / 16), sg (c.toNat % 16)]) := by show _ = _; unfold qB; rw [if_neg h1, if_neg h2]
          rw [HQB.out] at HL hLn
          simp only [List.length_cons, List.length_nil] at hLn
          have hb32 : ((c.toNat : Int) == 32) = false := ne_byte h2
          have hcl := c.toNat_lt
          clear h1 h2
          by_cases hf : L.length = 16384
          · go_wp2_with (go_at_call 39; refine (HIX.out _).mono ?_; rintro e w' ⟨rfl, rfl⟩)
            refine (putP_full B b L 37 _ hB (by omega)).mono ?_
            rintro e w9 ⟨rfl, rfl⟩
            go_wp2_with fail
            go_ret
            exact ⟨rfl, hb⟩
          · by_cases hf1 : L.length = 16383
            · go_wp2_with (go_at_call 39; refine (HIX.out _).mono ?_; rintro e w' ⟨rfl, rfl⟩)
              refine (putP_c B b L 37 _ hB (by omega) hBr).mono ?_
              rintro e w2 ⟨rfl, hB2, hb2⟩
              have hb3 := hb.trans hb2
              clear hB hb hb2
              go_wp2_with fail
              refine (putP_fullq B b (L ++ [37]) (sg (c.toNat / 16)) _ (congrArg Nat.cast (hex_at ⟨c.toNat / 16, by omega⟩)) _ hB2 (by rw [List.length_append, List.length_singleton]; omega)).mono ?_
              rintro e w9 ⟨rfl, rfl⟩
              go_wp2_with fail
              go_ret
              exact ⟨rfl, hb3⟩
            · by_cases hf2 : L.length = 16382
              · go_wp2_with (go_at_call 39; refine (HIX.out _).mono ?_; rintro e w' ⟨rfl, rfl⟩)
                refine (putP_c B b L 37 _ hB (by omega) hBr).mono ?_
                rintro e w2 ⟨rfl, hB2, hb2⟩
                have hb3 := hb.trans hb2
                clear hB hb hb2
                go_wp2_with fail
                refine (putP_q B b (L ++ [37]) (sg (c.toNat / 16)) _ (congrArg Nat.cast (hex_at ⟨c.toNat / 16, by omega⟩)) _ hB2 (by rw [List.length_append, List.length_singleton]; omega) (Nat.le_trans hBw hb3.size)).mono ?_
                rintro e w3 ⟨rfl, hB3, hb4⟩
                have hb5 := hb3.trans hb4
                clear hB2 hb3 hb4
                go_wp2_with fail
                refine (putP_fullq B b (L ++ [37] ++ [sg (c.toNat / 16)]) (sg (c.toNat % 16)) _ (congrArg Nat.cast (hex_at ⟨c.toNat % 16, by omega⟩)) _ hB3 (by rw [List.length_append, List.length_append, List.length_singleton, List.length_singleton]; omega)).mono ?_
                rintro e w9 ⟨rfl, rfl⟩
                go_wp2_with fail
                go_ret
                exact ⟨rfl, hb5⟩
              · go_wp2_with (go_at_call 39; refine (HIX.out _).mono ?_; rintro e w' ⟨rfl, rfl⟩)
                refine (putP_c B b L 37 _ hB (by omega) hBr).mono ?_
                rintro e w2 ⟨rfl, hB2, hb2⟩
                have hb3 := hb.trans hb2
                clear hB hb hb2
                go_wp2_with fail
                refine (putP_q B b (L ++ [37]) (sg (c.toNat / 16)) _ (congrArg Nat.cast (hex_at ⟨c.toNat / 16, by omega⟩)) _ hB2 (by rw [List.length_append, List.length_singleton]; omega) (Nat.le_trans hBw hb3.size)).mono ?_
                rintro e w3 ⟨rfl, hB3, hb4⟩
                have hb5 := hb3.trans hb4
                clear hB2 hb3 hb4
                go_wp2_with fail
                refine (putP_q B b (L ++ [37] ++ [sg (c.toNat / 16)]) (sg (c.toNat % 16)) _ (congrArg Nat.cast (hex_at ⟨c.toNat % 16, by omega⟩)) _ hB3 (by rw [List.length_append, List.length_append, List.length_singleton, List.length_singleton]; omega) (Nat.le_trans hBw hb5.size)).mono ?_
                rintro e w4 ⟨rfl, hB4, hb6⟩
                have hb7 := hb5.trans hb6
                clear hB3 hb5 hb6
                go_wp2_with fail
                go_roundg g
                case measure => omega
                case rel => exact ⟨k + 1, by omega, by go_num, by rw [HL.out]; simpa using hB4, by rw [HL.out, List.length_append]; simp only [List.length_cons, List.length_nil]; omega, hb7⟩
end Go.Proofs.Ytfgenbmobfbifaa.fdv
