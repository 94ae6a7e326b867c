/- The contracts of the developers' pair and pieces (an iterator). Texts of up to 16777216 bytes. -/
import Derived.Test.YtfgenbmobfbifaaFdv3
import Derived.Test.YtfgenbmobfbifaaFld8
import Derived.RangeFuncNested
import Derived.RangeFuncBound
import Derived.RangeFuncCalls
import Derived.RangeFuncLeaves
import Derived.RangeFuncBox
import Derived.Shelf.Abstract
import Derived.Shelf.RegionOpen
import Derived.OwnWalkIn
import Derived.TacticsInMore
import Derived.LoopNIn
import Derived.LoopIn
import Derived.Maps.AppendAt
namespace Go.Proofs.Ytfgenbmobfbifaa.fdv
open Go.RowKit
open Go.Proofs.Ytfgenbmobfbifaa.oct Go.Proofs.Ytfgenbmobfbifaa.ref Go.Proofs.Ytfgenbmobfbifaa.fld Go.Proofs.Ytfgenbmobfbifaa.rows
open Go.Lib (byteCells)

theorem cutEq_cut (l : List UInt8) : cut1 61 l = .tuple #[.string ⟨(cutEq l).1.toArray⟩, .string ⟨(cutEq l).2.toArray⟩, .bool (decide ((61 : UInt8) ∈ l))] := rfl
theorem tw_le (c : UInt8) (l : List UInt8) : (l.takeWhile (· ≠ c)).length ≤ l.length ∧ ((l.dropWhile (· ≠ c)).drop 1).length ≤ l.length := by
  constructor
  · exact (List.takeWhile_prefix _).length_le
  · rw [List.length_drop]
    have := (List.dropWhile_suffix (l := l) (fun x : UInt8 => decide (x ≠ c))).length_le
    omega
theorem unquote_l (l : List UInt8) (w : World) (hs : l.length ≤ 140737488351232) :
    Calls Try.prog 15 #[.string ⟨l.toArray⟩] w fun e w' => e = .returned (unqV (unq l)) ∧ Below w.heap.size w w' := by
  have h := unquote_c ⟨l.toArray⟩ w (by rw [size_mk]; exact hs)
  exact h
set_option maxRecDepth 8000 in
set_option maxHeartbeats 2000000 in
theorem dpair_c (s : ByteArray) (w : World) (hs : s.size ≤ 140737488351232) :
    Calls Try.prog 36 #[.string s] w fun e w' => e = .returned (pairV (pairOf s.data.toList)) ∧ Below w.heap.size w w' := by
  have hl : s.data.toList.length = s.size := by rw [Array.length_toList]; rfl
  obtain ⟨n1, n2⟩ := tw_le 61 s.data.toList
  rw [hl] at n1 n2
  have HO : Hid (pairOf s.data.toList = match unq (cutEq s.data.toList).1, unq (cutEq s.data.toList).2 with | some n, some v => some (n, v) | _, _ => none) := rfl
  have hc := fun w => cut_c s 61 w hs
  simp only [cutEq_cut] at hc
  have HU1 := Lib.hid (fun w => unquote_l (cutEq s.data.toList).1 w (Nat.le_trans n1 hs))
  have HU2 := Lib.hid (fun w => unquote_l (cutEq s.data.toList).2 w (Nat.le_trans n2 hs))
  obtain ⟨A, hA⟩ : ∃ A, (cutEq s.data.toList).1 = A := ⟨_, rfl⟩
  obtain ⟨B, hB⟩ : ∃ B, (cutEq s.data.toList).2 = B := ⟨_, rfl⟩
  rw [hA] at HU1 HO hc
  rw [hB] at HU2 HO hc
  have HC := Lib.hid hc
  have hE : Blk (w.alloc (.cells #[.string ⟨#[]⟩, .string ⟨#[]⟩] 44)) w.heap.size 44 [tx [], tx []] := blk_new w _ _ _ rfl
  have hb0 := (Below.refl w.heap.size w).alloc (Nat.le_refl _) (.cells #[.string ⟨#[]⟩, .string ⟨#[]⟩] 44)
  have HE := Lib.hid hE
  have HB0 := Lib.hid hb0
  clear hE hb0 hA hB hl n1 n2 hc
  go_enter Try.func36, Try.ntmps36
  go_wp2_with (go_at_call 44; refine (HC.out _).mono ?_; rintro e w1 ⟨rfl, n, rfl⟩)
  have HEd : Hid (Blk ((w.alloc (.cells #[.string ⟨#[]⟩, .string ⟨#[]⟩] 44)).drewN n) w.heap.size 44 [tx [], tx []]) := HE.out
  have hbd := below_drewN HB0.out n
  refine (HU1.out _).mono ?_
  rintro e w2 ⟨rfl, hb2⟩
  have hE2 := HEd.out.below hb2
  have HBW := Lib.hid (bnext hbd hb2)
  have c0 := hE2.cell 0
  have c1 := hE2.cell 1
  have f0 := hE2.frozen 0
  have f1 := hE2.frozen 1
  have HE2 := Lib.hid hE2
  clear hE2 hb2 hbd HEd
  cases hu1 : unq A with
  | none =>
    rw [hu1] at HO
    have HPO : Hid (pairOf s.data.toList = none) := HO.out
    unfold unqV
    clear hu1 HO
    go_wp2_with fail
    clear c0 c1 f0 f1
    have hF := (HE2.out.set 0 (tx [])).set 1 (tx [])
    refine bodyPost_ret (v := .tuple #[.agg #[tx [], tx []], .int .i64 3]) (results_pair Try.results36 _ _ w.heap.size 44 (tx []) (tx []) _ rfl rfl hF Try.underlying44 rfl infoP) rfl ⟨by rw [HPO.out]; rfl, (HBW.out.setCell (p := ⟨w.heap.size, 0, none⟩) (Nat.le_refl _) _).setCell (p := ⟨w.heap.size, 1, none⟩) (Nat.le_refl _) _⟩
  | some a =>
    rw [hu1] at HO
    unfold unqV
    clear hu1
    go_wp2_with fail
    refine (HU2.out _).mono ?_
    rintro e w3 ⟨rfl, hb3⟩
    have hE3 := HE2.out.below hb3
    have HBW2 := Lib.hid (bnext HBW.out hb3)
    clear c0 c1 f0 f1 HBW HE2
    have c0 := hE3.cell 0
    have c1 := hE3.cell 1
    have f0 := hE3.frozen 0
    have f1 := hE3.frozen 1
    have HE2 := Lib.hid hE3
    have HBW := Lib.hid HBW2.out
    clear hE3 hb3 HBW2
    cases hu2 : unq B with
    | none =>
      rw [hu2] at HO
      have HPO : Hid (pairOf s.data.toList = none) := HO.out
      unfold unqV
      clear hu2 HO
      go_wp2_with fail
      clear c0 c1 f0 f1
      have hF := (HE2.out.set 0 (tx [])).set 1 (tx [])
      refine bodyPost_ret (v := .tuple #[.agg #[tx [], tx []], .int .i64 3]) (results_pair Try.results36 _ _ w.heap.size 44 (tx []) (tx []) _ rfl rfl hF Try.underlying44 rfl infoP) rfl ⟨by rw [HPO.out]; rfl, (HBW.out.setCell (p := ⟨w.heap.size, 0, none⟩) (Nat.le_refl _) _).setCell (p := ⟨w.heap.size, 1, none⟩) (Nat.le_refl _) _⟩
    | some v =>
      rw [hu2] at HO
      have HPO : Hid (pairOf s.data.toList = some (a, v)) := HO.out
      unfold unqV
      clear hu2 HO
      go_wp2_with fail
      clear c0 c1 f0 f1
      have hF := (HE2.out.set 0 (tx a)).set 1 (tx v)
      refine bodyPost_ret (v := .tuple #[.agg #[tx a, tx v], .int .i64 0]) (results_pair Try.results36 _ _ w.heap.size 44 (tx a) (tx v) _ rfl rfl hF Try.underlying44 rfl infoP) rfl ⟨by rw [HPO.out]; rfl, (HBW.out.setCell (p := ⟨w.heap.size, 0, none⟩) (Nat.le_refl _) _).setCell (p := ⟨w.heap.size, 1, none⟩) (Nat.le_refl _) _⟩
end Go.Proofs.Ytfgenbmobfbifaa.fdv
