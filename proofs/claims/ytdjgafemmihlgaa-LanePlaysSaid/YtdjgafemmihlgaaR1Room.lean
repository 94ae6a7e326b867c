/- The contract of the reference's Room (rows within the reach). -/
import Derived.Test.YtdjgafemmihlgaaMem
namespace Go.Proofs.Ytdjgafemmihlgaa.ref
open Go.RowKit
open Go.Proofs.Ytdjgafemmihlgaa.oct
open Go.Lib (byteCells)

set_option maxRecDepth 20000 in
set_option maxHeartbeats 1000000 in
theorem room_c (p : Option Addr) (cp : Nat) (l : List UInt8) (w : World) (hp : In8 w p l) (hl : l.length ≤ 140737488351232) :
    Calls Try.prog 21 #[.slice p l.length cp] w fun e w' =>
      e = .returned (.slice (some ⟨w.heap.size, 0, none⟩) l.length (l.length + 3)) ∧ Blk w' w.heap.size 5 (byteCells l ++ seven 3) ∧ Below w.heap.size w w' := by
  obtain ⟨j0, hj, hy0, hy1, hy2⟩ := info_parts infoByte
  have HP := Lib.hid hp
  have HSZ : Hid ((Try.prog.info? 5).map (·.size) = some 1) := by show _ = _; rw [hj]; simp [hy1]
  clear hp
  go_enter Try.func21, Try.ntmps21
  go_wp2_with (first
    | (at_make; refine wpList_make_full _ rfl _ _ 35 rfl w.heap.size 5 j0 (.int .u8 0) 1 Try.underlying35 hj hy0 hy1 .i64 .i64 _ _ (l.length + 3) rfl rfl (by simp) (by simp) (by rw [hy2]; omega) (by unfold maxLen; omega) (Nat.le_refl _) ?_; intro w1 hown hgrow; obtain ⟨Z, HZL, HBK, hb1⟩ := made_whole hown hgrow; clear hown hgrow)
    | (with_reducible refine wpList_copy_splice rfl (.tmp 9) (.tmp 10) 35 35 rfl 5 Try.underlying35 HSZ.out (some ⟨w.heap.size, 0, none⟩) p (l.length + 3) (l.length + 3) l.length cp rfl rfl w.heap.size 0 Z 5 HBK.out (byteCells l) (by rw [byteCells_len]; exact (Nat.min_eq_left (by omega)).symm) (copy_src (HP.out.below hb1)) (by rw [byteCells_len, HZL.out]; omega) (byteCells_one l) w.heap.size w hb1 (Nat.le_refl _) ?_; intro w2 hb2 hbl2))
  have hT : ∃ T : List Value, T.length = 3 ∧ Blk w2 w.heap.size 5 (byteCells l ++ T) := by
    refine ⟨Z.drop l.length, by rw [List.length_drop, HZL.out]; omega, ?_⟩
    have h := hb2.out
    rwa [show splice Z 0 (byteCells l) = byteCells l ++ Z.drop l.length from by unfold splice; rw [List.take_zero, List.nil_append, Nat.zero_add, byteCells_len]] at h
  obtain ⟨T0, hT0, hB0⟩ := hT
  clear hb2 hb1 HBK HZL
  go_loopg [4] 3 (fun g s4 wy => ∃ (j : Nat) (T : List Value), j + g = 3 ∧ T.length = g ∧ s4 = .int .i64 ((l.length + j : Nat) : Int) ∧ Blk wy w.heap.size 5 ((byteCells l ++ seven j) ++ T) ∧ Below w.heap.size w wy)
  case atStart => exact ⟨0, T0, rfl, hT0, rfl, by simpa [seven] using hB0, hbl2⟩
  case round =>
    clear hB0 hbl2
    obtain ⟨j, T, hjg, hTl, rfl, hB, hbx⟩ := hrel
    cases gk with
    | zero =>
      obtain rfl : j = 3 := by omega
      obtain rfl : T = [] := List.eq_nil_of_length_eq_zero hTl
      rw [List.append_nil] at hB
      have HB := Lib.hid hB
      clear hB
      go_wp2_with fail
      go_ret
      exact ⟨rfl, HB.out, hbx⟩
    | succ g =>
      rcases T with _ | ⟨x, T⟩
      · simp at hTl
      have hlen : (byteCells l ++ seven j).length = l.length + j := by simp [byteCells_len, seven]
      have hc := hB.cell (l.length + j)
      have hf := hB.frozen (l.length + j)
      rw [← hlen, List.getElem?_append_right (Nat.le_refl _), Nat.sub_self, hlen] at hc
      simp only [List.getElem?_cons_zero] at hc
      have hset := hB.set (l.length + j) (.int .u8 77)
      rw [← hlen, set_at, hlen] at hset
      have HSET := Lib.hid hset
      have hj3 : j < 3 := by omega
      clear hB hset hlen
      go_wp2_with fail
      go_roundg g
      case measure => omega
      case rel =>
        refine ⟨j + 1, T, by omega, by simpa using hTl, by go_num, ?_, hbx.setCell (Nat.le_refl _) _⟩
        have h := HSET.out
        rwa [show (byteCells l ++ seven j) ++ Value.int .u8 77 :: T = (byteCells l ++ seven (j + 1)) ++ T from by simp [seven, List.replicate_succ', List.append_assoc]] at h
end Go.Proofs.Ytdjgafemmihlgaa.ref
