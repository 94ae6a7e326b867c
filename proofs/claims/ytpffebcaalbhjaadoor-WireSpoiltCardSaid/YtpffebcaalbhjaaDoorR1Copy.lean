/- The contract of the reference's Copy (rows within the reach). -/
import Derived.Test.YtpffebcaalbhjaaDoorBaseA
namespace Go.Proofs.YtpffebcaalbhjaaDoor.ref
open Go.RowKit
open Go.Proofs.YtpffebcaalbhjaaDoor.oct
open Go.Lib (byteCells)

set_option maxHeartbeats 1000000 in
theorem rcopy_b (p : Option Addr) (cp : Nat) (l : List UInt8) (w : World) (hp : In8 w p l) (hl : l.length ≤ 140737488355328) :
    Calls Tryd.prog 24 #[.slice p l.length cp] w fun e w' =>
      e = .returned (.slice (some ⟨w.heap.size, 0, none⟩) l.length l.length) ∧ Blk w' w.heap.size 5 (byteCells l) ∧ Below w.heap.size w w' := by
  obtain ⟨j0, hj, hy0, hy1, hy2⟩ := info_parts infoByte
  have HP := Lib.hid hp
  have HSZ : Hid ((Tryd.prog.info? 5).map (·.size) = some 1) := by show _ = _; rw [hj]; simp [hy1]
  clear hp
  go_enter Tryd.func24, Tryd.ntmps24
  go_wp2_with (first
    | (at_make; refine wpList_make_full _ rfl _ _ 24 rfl w.heap.size 5 j0 (.int .u8 0) 1 Tryd.underlying24 hj hy0 hy1 .i64 .i64 _ _ l.length rfl rfl rfl rfl (by rw [hy2]; omega) (by unfold maxLen; omega) (Nat.le_refl _) ?_; intro w1 hown hgrow; obtain ⟨Z, HZL, HBK, hb1⟩ := made_whole hown hgrow; clear hown hgrow)
    | (with_reducible refine wpList_copy_splice rfl (.tmp 7) (.tmp 8) 24 24 rfl 5 Tryd.underlying24 HSZ.out (some ⟨w.heap.size, 0, none⟩) p l.length l.length l.length cp rfl rfl w.heap.size 0 Z 5 HBK.out (byteCells l) (by rw [byteCells_len]; exact (Nat.min_self _).symm) (copy_src (HP.out.below hb1)) (by rw [byteCells_len, HZL.out]; omega) (byteCells_one l) w.heap.size w hb1 (Nat.le_refl _) ?_; intro w2 hb2 hbl2))
  go_ret
  have hsp : splice Z 0 (byteCells l) = byteCells l := by
    unfold splice
    rw [List.take_zero, List.nil_append, Nat.zero_add, List.drop_of_length_le (by rw [byteCells_len, HZL.out]; exact Nat.le_refl _), List.append_nil]
  have hb3 := hb2.out
  rw [hsp] at hb3
  exact ⟨rfl, hb3, hbl2⟩
theorem rcopy_c (p : Option Addr) (cp : Nat) (l : List UInt8) (w : World) (hp : In8 w p l) (hl : l.length ≤ 140737488355328) :
    Calls Tryd.prog 24 #[.slice p l.length cp] w fun e w' =>
      ∃ v, e = .returned v ∧ w'.ownsRow w.heap.size 5 1 v l.length (byteCells l) ∧ Below w.heap.size w w' :=
  (rcopy_b p cp l w hp hl).mono fun e w' ⟨h1, h2, h3⟩ => by
    have hw := own_of_block (Nat.le_refl w.heap.size) h2 (by rw [byteCells_len]; unfold maxLen; omega)
    rw [byteCells_len] at hw
    exact ⟨_, h1, hw, h3⟩
end Go.Proofs.YtpffebcaalbhjaaDoor.ref
