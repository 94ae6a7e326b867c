/- The contracts of the reference's Room and Kept. -/
import Derived.Test.YtddihhpahghajaaDoorRef6
import Derived.Test.YtddihhpahghajaaDoorLawB
import Derived.WalkSmall
namespace Go.Proofs.YtddihhpahghajaaDoor.ref
open Go.RowKit
open Go.Proofs.YtddihhpahghajaaDoor.pl Go.Proofs.YtddihhpahghajaaDoor.oct
open Go.Lib (byteCells)

/-- block g holds the cells X -/
def Blk (w : World) (g e : Nat) (X : List Value) : Prop := w.heap[g]? = some (.cells X.toArray e (0, 0))
theorem Blk.lt {w : World} {g e : Nat} {X : List Value} (h : Blk w g e X) : g < w.heap.size := (Array.getElem?_eq_some_iff.1 h).1
theorem Blk.cell {w : World} {g e : Nat} {X : List Value} (h : Blk w g e X) (i : Nat) : w.cell? ⟨g, i, none⟩ = X[i]? := by
  rw [cell_of_row w g i X.toArray e (0, 0) h]; simp
theorem Blk.frozen {w : World} {g e : Nat} {X : List Value} (h : Blk w g e X) (i : Nat) : w.frozen? ⟨g, i, none⟩ = false := by
  simp [World.frozen?, show w.heap[g]? = _ from h]
theorem Blk.set {w : World} {g e : Nat} {X : List Value} (h : Blk w g e X) (i : Nat) (v : Value) : Blk (w.setCell ⟨g, i, none⟩ v) g e (X.set i v) := by
  unfold Blk at h ⊢
  simp [World.setCell, Array.getElem?_modify, h]
theorem Blk.set_other {w : World} {g e : Nat} {X : List Value} (h : Blk w g e X) {b : Nat} (hb : b ≠ g) (i : Nat) (v : Value) : Blk (w.setCell ⟨b, i, none⟩ v) g e X := by
  unfold Blk at h ⊢
  rw [Below.heap_setCell _ _ _ _ (by exact fun e => hb e.symm)]; exact h
theorem Blk.below {w w' : World} {g e : Nat} {X : List Value} (h : Blk w g e X) (hb : Below w.heap.size w w') : Blk w' g e X := (hb.block g h.lt).trans h
theorem Blk.drewN {w : World} {g e : Nat} {X : List Value} (h : Blk w g e X) (n : Nat) : Blk (w.drewN n) g e X := h

def seven (j : Nat) : List Value := List.replicate j (.int .u8 77)
theorem set_at (A : List Value) (v x : Value) (B : List Value) : (A ++ x :: B).set A.length v = A ++ v :: B := by simp

set_option maxHeartbeats 1000000 in
theorem room_c (p : Option Addr) (cp : Nat) (l : List UInt8) (w : World) (hp : In8 w p l) (hl : l.length ≤ 1048576) :
    Calls Tryd.prog 31 #[.slice p l.length cp] w fun e w' =>
      e = .returned (.slice (some ⟨w.heap.size, 0, none⟩) l.length (l.length + 3)) ∧ Blk w' w.heap.size 5 (byteCells l ++ seven 3) ∧ Below w.heap.size w w' := by
  obtain ⟨j0, hj, hy0, hy1, hy2⟩ := info_parts infoByte
  have HP := Lib.hid hp
  have HSZ : Hid ((Tryd.prog.info? 5).map (·.size) = some 1) := by show _ = _; rw [hj]; simp [hy1]
  clear hp
  go_enter Tryd.func31, Tryd.ntmps31
  go_wp2_with (first
    | (at_make; refine wpList_make_full _ rfl _ _ 22 rfl w.heap.size 5 j0 (.int .u8 0) 1 Tryd.underlying22 hj hy0 hy1 .i64 .i64 _ _ (l.length + 3) rfl rfl (by simp) (by simp) (by rw [hy2]; omega) (by unfold maxLen; omega) (Nat.le_refl _) ?_; intro w1 hown hgrow; obtain ⟨Z, HZL, HBK, hb1⟩ := made_whole hown hgrow; clear hown hgrow)
    | (with_reducible refine wpList_copy_splice rfl (.tmp 9) (.tmp 10) 22 22 rfl 5 Tryd.underlying22 HSZ.out (some ⟨w.heap.size, 0, none⟩) p (l.length + 3) (l.length + 3) l.length cp rfl rfl w.heap.size 0 Z 5 HBK.out (byteCells l) (by rw [byteCells_len]; exact (Nat.min_eq_left (by omega)).symm) (copy_src (HP.out.below hb1)) (by rw [byteCells_len, HZL.out]; omega) (byteCells_one l) w.heap.size w hb1 (Nat.le_refl _) ?_; intro w2 hb2 hbl2))
  have hT : ∃ T : List Value, T.length = 3 ∧ Blk w2 w.heap.size 5 (byteCells l ++ T) := by
    refine ⟨Z.drop l.length, by rw [List.length_drop, HZL.out]; omega, ?_⟩
    have h := hb2.out
    rwa [show splice Z 0 (byteCells l) = byteCells l ++ Z.drop l.length from by unfold splice; rw [List.take_zero, List.nil_append, Nat.zero_add, byteCells_len]] at h
  obtain ⟨T0, hT0, hB0⟩ := hT
  clear hb2 hb1 HBK HZL
  go_loopg [4] 3 (fun g s4 wy => ∃ (j : Nat) (T : List Value), j + g = 3 ∧ T.length = g ∧ s4 = .int .i64 ((l.length + j : Nat) : Int) ∧ Blk wy w.heap.size 5 ((byteCells l ++ seven j) ++ T) ∧ Below w.heap.size w wy)
  case atStart => exact ⟨0, T0, rfl, hT0, rfl, by simpa [seven] using hB0, hbl2⟩
  case round =>
    clear hB0 hbl2
    obtain ⟨j, T, hjg, hTl, rfl, hB, hbx⟩ := hrel
    cases gk with
    | zero =>
      obtain rfl : j = 3 := by omega
      obtain rfl : T = [] := List.eq_nil_of_length_eq_zero hTl
      rw [List.append_nil] at hB
      have HB := Lib.hid hB
      clear hB
      go_wp2_with fail
      go_ret
      exact ⟨rfl, HB.out, hbx⟩
    | succ g =>
      rcases T with _ | ⟨x, T⟩
      · simp at hTl
      have hlen : (byteCells l ++ seven j).length = l.length + j := by simp [byteCells_len, seven]
      have hc := hB.cell (l.length + j)
      have hf := hB.frozen (l.length + j)
      rw [← hlen, List.getElem?_append_right (Nat.le_refl _), Nat.sub_self, hlen] at hc
      simp only [List.getElem?_cons_zero] at hc
      have hset := hB.set (l.length + j) (.int .u8 77)
      rw [← hlen, set_at, hlen] at hset
      have HSET := Lib.hid hset
      have hj3 : j < 3 := by omega
      clear hB hset hlen
      go_wp2_with fail
      go_roundg g
      case measure => omega
      case rel =>
        refine ⟨j + 1, T, by omega, by simpa using hTl, by go_num, ?_, hbx.setCell (Nat.le_refl _) _⟩
        have h := HSET.out
        rwa [show (byteCells l ++ seven j) ++ Value.int .u8 77 :: T = (byteCells l ++ seven (j + 1)) ++ T from by simp [seven, List.replicate_succ', List.append_assoc]] at h

theorem in8_blk {w : World} {g : Nat} {l : List UInt8} {Y : List Value} (h : Blk w g 5 (byteCells l ++ Y)) : In8 w (some ⟨g, 0, none⟩) l := by
  intro _
  refine ⟨g, 0, rfl, fun i hi => ?_⟩
  rw [Nat.zero_add, h.cell i, List.getElem?_append_left (by rw [byteCells_len]; exact hi)]
  simp [byteCells, List.getD, List.getElem?_eq_getElem hi]
theorem blk_seven {w : World} {g : Nat} {l : List UInt8} (h : Blk w g 5 (byteCells l ++ seven 3)) (j : Nat) (hj : j < 3) : w.cell? ⟨g, l.length + j, none⟩ = some (.int .u8 77) := by
  rw [h.cell, List.getElem?_append_right (by rw [byteCells_len]; omega), byteCells_len, Nat.add_sub_cancel_left]
  unfold seven
  rw [List.getElem?_replicate, if_pos hj]

set_option maxHeartbeats 1000000 in
theorem kept_c (g : Nat) (q : Option Addr) (cq : Nat) (l : List UInt8) (w : World) (hB : Blk w g 5 (byteCells l ++ seven 3)) (hq : In8 w q l) (hl : l.length ≤ 1048576) :
    Calls Tryd.prog 32 #[.slice (some ⟨g, 0, none⟩) l.length (l.length + 3), .slice q l.length cq] w fun e w' => e = .returned (.bool true) ∧ ∃ n, w' = w.drewN n := by
  have HS := Lib.hid (rsame_c (some ⟨g, 0, none⟩) q (l.length + 3) cq l l w (in8_blk hB) hq (by omega))
  have h0 := blk_seven hB 0 (by omega)
  have h1 := blk_seven hB 1 (by omega)
  have h2 := blk_seven hB 2 (by omega)
  rw [Nat.add_zero] at h0
  clear hB hq
  go_enter Tryd.func32, Tryd.ntmps32
  go_wp2_with (go_at_call 20; refine HS.out.mono ?_; rintro e w2 ⟨rfl, nd, rfl⟩; rw [show decide (l = l) = true from by simp])
  go_ret
  exact ⟨rfl, nd, rfl⟩
end Go.Proofs.YtddihhpahghajaaDoor.ref
