/- Contracts of the reference's Web, Basic, Hex (rows up to 1048576 bytes). -/
import Derived.Test.YtddihhpahghajaaDoorOct9
import Derived.Test.YtddihhpahghajaaDoorOct11
import Derived.Deep.RegionWith
import Derived.WalkSmall
namespace Go.Proofs.YtddihhpahghajaaDoor.ref
open Go.RowKit
open Go.Proofs.YtddihhpahghajaaDoor.pl Go.Proofs.YtddihhpahghajaaDoor.oct
open Go.Lib (byteCells)

theorem text_congr {sg sg' : Nat → UInt8} {ds : List Nat} (h : ∀ d ∈ ds, sg d = sg' d) : text sg ds = text sg' ds := List.map_congr_left h
theorem text6w (l : List UInt8) : text (sg6 true) (enc 6 l) = webT l := text_congr fun d hd => webS_sg6 d ((enc_tells (w := 6) (by decide) l).1 d hd)
theorem text6b (l : List UInt8) : text (sg6 false) (enc 6 l) = basB l := text_congr fun d hd => basS_sg6 d ((enc_tells (w := 6) (by decide) l).1 d hd)

set_option maxHeartbeats 400000 in
theorem rweb_c (p : Option Addr) (cp : Nat) (l : List UInt8) (w : World) (hp : In8 w p l) (hl : l.length ≤ 2097152) :
    Calls Tryd.prog 22 #[.slice p l.length cp] w fun e w' => e = .returned (.string ⟨(webT l).toArray⟩) ∧ Below w.heap.size w w' := by
  have h := sixes_c p cp l true w hp hl
  rw [text6w] at h
  have H := Lib.hid h
  clear h
  go_enter Tryd.func22, Tryd.ntmps22
  go_wp2_with (go_at_call 38; refine H.out.mono ?_; rintro e w1 ⟨rfl, hb⟩)
  go_ret
  exact ⟨rfl, hb⟩

theorem lack_go (n j : Nat) (h : j < lack n) : (((n + j : Nat) : Int) % 4 != 0) = true := by rw [bne_iff_ne]; unfold lack at h; omega
theorem lack_end (n : Nat) : (((n + lack n : Nat) : Int) % 4 != 0) = false := by rw [bne_eq_false_iff_eq]; unfold lack; omega

set_option maxHeartbeats 400000 in
theorem rbas_c (p : Option Addr) (cp : Nat) (l : List UInt8) (w : World) (hp : In8 w p l) (hl : l.length ≤ 2097152) :
    Calls Tryd.prog 26 #[.slice p l.length cp] w fun e w' => e = .returned (.string ⟨(basT l).toArray⟩) ∧ Below w.heap.size w w' := by
  have h := sixes_c p cp l false w hp hl
  rw [text6b] at h
  have hbl := basB_len l
  obtain ⟨B, hB⟩ : ∃ B, basB l = B := ⟨_, rfl⟩
  have HT : Hid (basT l = B ++ List.replicate (lack B.length) 61) := by show _ = _; rw [← hB]; rfl
  rw [hB] at h hbl
  have hb2 : B.length ≤ 9000000 := by omega
  have hlk : lack B.length ≤ 3 := by unfold lack; omega
  have H := Lib.hid h
  clear h hbl hB
  go_enter Tryd.func26, Tryd.ntmps26
  go_wp2_with (go_at_call 38; refine H.out.mono ?_; rintro e w1 ⟨rfl, hb⟩)
  go_loopg [3] (lack B.length) (fun g s3 wx => ∃ (j : Nat) (X : List UInt8), j + g = lack B.length ∧ s3 = .string ⟨X.toArray⟩ ∧ X.length = B.length + j ∧ Hid (X = B ++ List.replicate j 61) ∧ w1 = wx)
  case atStart => exact ⟨0, B, by omega, rfl, rfl, by show _ = _; simp, rfl⟩
  case round =>
    obtain ⟨j, X, hjg, rfl, hX, HX, rfl⟩ := hrel
    cases gk with
    | zero =>
      obtain rfl : j = lack B.length := by omega
      have ht := lack_end B.length
      rw [← hX] at ht
      have HXL := Lib.hid hX
      clear hX
      go_wp2_with fail
      go_ret
      exact ⟨ret_string (by rw [HT.out, HX.out]), hb⟩
    | succ g =>
      have ht := lack_go B.length j (by omega)
      rw [← hX] at ht
      have hXb : X.length ≤ 9000010 := by omega
      have HXL := Lib.hid hX
      clear hX
      go_wp2_with fail
      go_roundg g
      case measure => omega
      case rel => exact ⟨j + 1, X ++ [61], by omega, congrArg Value.string (ba_append X [61]), by rw [List.length_append, HXL.out]; rfl, by show _ = _; rw [HX.out, List.append_assoc, ← List.replicate_succ'], rfl⟩

/-- two signs a byte -/
def two (c : UInt8) : List UInt8 := [UInt8.ofNat (dig ((c.toNat : Int) / 16)).toNat, UInt8.ofNat (dig ((c.toNat : Int) % 16)).toNat]
theorem dig_u8 (a : Nat) (h : a < 16) : ∃ x : UInt8, dig (a : Int) = (x.toNat : Int) := by
  refine ⟨UInt8.ofNat (dig (a : Int)).toNat, ?_⟩
  rw [UInt8.toNat_ofNat']
  unfold dig
  split <;> omega
def hexR (l : List UInt8) : List UInt8 := l.flatMap two

set_option maxHeartbeats 2000000 in
theorem rhex_c (p : Option Addr) (cp : Nat) (l : List UInt8) (w : World) (hp : In8 w p l) (hl : l.length ≤ 1048576) :
    Calls Tryd.prog 17 #[.slice p l.length cp] w fun e w' => e = .returned (.string ⟨(hexR l).toArray⟩) ∧ Below w.heap.size w w' := by
  have HP := Lib.hid hp
  clear hp
  go_enter Tryd.func17, Tryd.ntmps17
  go_wp2_with fail
  go_loopg [3, 4] l.length (fun g s3 s4 wx => ∃ (k : Nat) (X : List UInt8), k + g = l.length ∧ s4 = .int .i64 k ∧ s3 = .string ⟨X.toArray⟩ ∧ X.length = 2 * k ∧ Hid (X = hexR (l.take k)) ∧ Below w.heap.size w wx)
  case atStart => exact ⟨0, [], by omega, rfl, rfl, rfl, rfl, Below.refl _ _⟩
  case round =>
    obtain ⟨k, X, hkg, rfl, rfl, hX, HX, hbx⟩ := hrel
    cases gk with
    | zero =>
      have hkz : ¬ ((k : Int) < (l.length : Int)) := by omega
      have HK : Hid (X = hexR l) := by have := HX.out; rwa [List.take_of_length_le (by omega)] at this
      clear hX
      go_wp2_with fail
      go_ret
      exact ⟨ret_string (by rw [HK.out]), hbx⟩
    | succ g =>
      have hkz : (k : Int) < (l.length : Int) := by omega
      obtain ⟨b, o, rfl, hc⟩ := HP.out.at (by omega)
      have hbl : b < w.heap.size := HP.out.blt (by omega)
      have hcell := (hbx.cell (p := ⟨b, o + k, none⟩) hbl).trans (hc k (by omega))
      obtain ⟨c, hcd⟩ : ∃ c : UInt8, l.getD k 0 = c := ⟨_, rfl⟩
      have HT : Hid (hexR (l.take (k + 1)) = hexR (l.take k) ++ two c) := by
        show _ = _
        rw [List.take_succ_eq_append_getElem (by omega), ← hcd]; unfold hexR; rw [List.flatMap_append]; simp [List.getD, List.getElem?_eq_getElem (show k < l.length by omega)]
      rw [hcd] at hcell
      have hc256 := c.toNat_lt
      have HXL := Lib.hid hX
      have hXb : X.length ≤ 2097152 := by omega
      clear hc hcd hX
      obtain ⟨a, ha⟩ : ∃ a : Nat, c.toNat / 16 = a := ⟨_, rfl⟩
      obtain ⟨d, hd⟩ : ∃ d : Nat, c.toNat % 16 = d := ⟨_, rfl⟩
      have ha16 : a < 16 := by omega
      have hd16 : d < 16 := by omega
      have r1 : IntKind.i64.wrap (c.toNat : Int) = (c.toNat : Int) := wraps_i64 _ (by omega) (by omega)
      have r2 : ((c.toNat : Int)).tdiv 16 = (a : Int) := by rw [Int.tdiv_eq_ediv_of_nonneg (by omega)]; omega
      have r3 : IntKind.i64.wrap (a : Int) = (a : Int) := wraps_i64 _ (by omega) (by omega)
      have r4 : ((c.toNat : Int)).tmod 16 = (d : Int) := by rw [Int.tmod_eq_emod_of_nonneg (by omega)]; omega
      have r5 : IntKind.i64.wrap (d : Int) = (d : Int) := wraps_i64 _ (by omega) (by omega)
      have HD : Hid (two c = [UInt8.ofNat (dig (a : Int)).toNat, UInt8.ofNat (dig (d : Int)).toNat]) := by show _ = _; unfold two; rw [← ha, ← hd]; rfl
      obtain ⟨xa, da⟩ := dig_u8 a ha16
      obtain ⟨xd, dd⟩ := dig_u8 d hd16
      rw [da, dd] at HD
      have hcv : (convert 22 9 (.slice (some ⟨wr.heap.size, 0, none⟩) 2 2)).run Tryd.prog ((wr.alloc (.cells #[.int .u8 (xa.toNat : Int), .int .u8 (xd.toNat : Int)] 5)).drew) = .ok (.string ⟨#[xa, xd]⟩) ((wr.alloc (.cells #[.int .u8 (xa.toNat : Int), .int .u8 (xd.toNat : Int)] 5)).drew) :=
        conv_in8 (l := [xa, xd]) ((in8_new wr _ [xa, xd] rfl).below (Below.refl _ _).drew) (Or.inr ⟨_, _, rfl⟩) 2
      clear ha hd
      go_wp2_with fail
      go_region_with (go_at_call 35; refine (digit_c _ (by omega) (by omega) _).mono ?_; rintro e w' ⟨rfl, rfl⟩)
      all_goals go_wp2_with fail
      all_goals go_roundg g
      all_goals first
        | (case measure => omega)
        | skip
      all_goals (refine ⟨k + 1, X ++ [xa, xd], by omega, by go_num, congrArg Value.string (ba_append X [xa, xd]), by rw [List.length_append, HXL.out]; simp; omega, ?_, ?_⟩)
      all_goals first
        | (show _ = _; rw [HT.out, HX.out, HD.out]; simp)
        | exact (hbx.alloc hbx.size _).drew
        | exact (hbx.drew.alloc hbx.size _)
end Go.Proofs.YtddihhpahghajaaDoor.ref
