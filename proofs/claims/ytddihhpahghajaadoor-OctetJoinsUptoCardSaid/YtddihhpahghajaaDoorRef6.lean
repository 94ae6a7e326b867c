/- The contract of the reference's Copy; the reading of two rows one behind the other (plain). -/
import Derived.Test.YtddihhpahghajaaDoorOct11
import Derived.Laws.CopyOwn
import Derived.Laws.AppendOwnNone
namespace Go.Proofs.YtddihhpahghajaaDoor.ref
open Go.RowKit
open Go.Proofs.YtddihhpahghajaaDoor.pl Go.Proofs.YtddihhpahghajaaDoor.oct
open Go.Lib (byteCells)

theorem own_whole {w : World} {B e n : Nat} {p : Option Addr} {xs : List Value} (h : w.ownsRow B e 1 (.slice p n n) n xs) (hp : p ≠ none) : ∃ g, p = some ⟨g, 0, none⟩ ∧ B ≤ g ∧ w.heap[g]? = some (.cells xs.toArray e (0, 0)) := by
  rcases h.2 with ⟨h1, _⟩ | ⟨g, cap, cur, h1, hB, hg, _, _, hs, ht⟩
  · injection h1 with h1; exact absurd h1 hp
  · injection h1 with h1 h2 h3
    subst h3
    refine ⟨g, h1, hB, ?_⟩
    rw [hg, ← ht, List.take_of_length_le (by rw [Array.length_toList, hs]; exact Nat.le_refl _)]
theorem own_of_block {w : World} {B e g : Nat} {xs : List Value} (hB : B ≤ g) (hg : w.heap[g]? = some (.cells xs.toArray e (0, 0))) (hm : xs.length ≤ maxLen) : w.ownsRow B e 1 (.slice (some ⟨g, 0, none⟩) xs.length xs.length) xs.length xs :=
  ⟨by omega, Or.inr ⟨g, xs.length, xs.toArray, rfl, hB, hg, Nat.le_refl _, hm, by simp, by simp⟩⟩
theorem byteCells_one (l : List UInt8) : ∀ v ∈ byteCells l, v.oneCell' = true := by
  intro v hv
  obtain ⟨c, _, rfl⟩ := List.mem_map.1 hv
  rfl
theorem in8_src {w : World} {p : Option Addr} {l : List UInt8} (h : In8 w p l) (hl : 0 < l.length) : ∃ ad, p = some ad ∧ ∀ j v, (byteCells l)[j]? = some v → w.cell? (ad.add j) = some v := by
  obtain ⟨b, o, rfl, hc⟩ := h hl
  refine ⟨_, rfl, fun j v hj => ?_⟩
  have hjl : j < l.length := by
    rcases Nat.lt_or_ge j l.length with h1 | h1
    · exact h1
    · rw [List.getElem?_eq_none (by rw [byteCells_len]; exact h1)] at hj; cases hj
  rw [show (⟨b, o, none⟩ : Addr).add j = ⟨b, o + j, none⟩ from by unfold Addr.add; split <;> simp_all, hc j hjl, ← hj]
  simp [byteCells, List.getD, List.getElem?_eq_getElem hjl]

theorem made_whole {w w1 : World} {e n : Nat} {xs : List Value} (hown : w1.ownsRow w.heap.size e 1 (.slice (some ⟨w.heap.size, 0, none⟩) n n) n xs) (hgrow : w.grownBy w1 none) :
    ∃ Z : List Value, Hid (Z.length = n) ∧ Hid (w1.heap[w.heap.size]? = some (.cells Z.toArray e (0, 0))) ∧ Below w.heap.size w w1 := by
  obtain ⟨g, hg0, hB, hblk⟩ := own_whole hown (by simp)
  injection hg0 with hg0
  injection hg0 with hg0
  subst hg0
  exact ⟨xs, by have := hown.1; show _ = _; omega, hblk, (Below.refl _ w).grown hgrow (Nat.le_refl _) (fun k hk => by cases hk)⟩
theorem copy_src {w : World} {p : Option Addr} {l : List UInt8} {d : Addr} (h : In8 w p l) : 0 < (byteCells l).length → some d = some d ∧ ∃ ad, p = some ad ∧ ∀ j v, (byteCells l)[j]? = some v → w.cell? (ad.add j) = some v := by
  intro hpos
  rw [byteCells_len] at hpos
  obtain ⟨ad, h1, h2⟩ := in8_src h hpos
  exact ⟨rfl, ad, h1, h2⟩

set_option maxHeartbeats 1000000 in
theorem rcopy_c (p : Option Addr) (cp : Nat) (l : List UInt8) (w : World) (hp : In8 w p l) (hl : l.length ≤ 2097152) :
    Calls Tryd.prog 29 #[.slice p l.length cp] w fun e w' =>
      ∃ v, e = .returned v ∧ w'.ownsRow w.heap.size 5 1 v l.length (byteCells l) ∧ Below w.heap.size w w' := by
  obtain ⟨j0, hj, hy0, hy1, hy2⟩ := info_parts infoByte
  have HP := Lib.hid hp
  have HSZ : Hid ((Tryd.prog.info? 5).map (·.size) = some 1) := by show _ = _; rw [hj]; simp [hy1]
  clear hp
  go_enter Tryd.func29, Tryd.ntmps29
  go_wp2_with (first
    | (at_make; refine wpList_make_full _ rfl _ _ 22 rfl w.heap.size 5 j0 (.int .u8 0) 1 Tryd.underlying22 hj hy0 hy1 .i64 .i64 _ _ l.length rfl rfl rfl rfl (by rw [hy2]; omega) (by unfold maxLen; omega) (Nat.le_refl _) ?_; intro w1 hown hgrow; obtain ⟨Z, HZL, HBK, hb1⟩ := made_whole hown hgrow; clear hown hgrow)
    | (with_reducible refine wpList_copy_splice rfl (.tmp 7) (.tmp 8) 22 22 rfl 5 Tryd.underlying22 HSZ.out (some ⟨w.heap.size, 0, none⟩) p l.length l.length l.length cp rfl rfl w.heap.size 0 Z 5 HBK.out (byteCells l) (by rw [byteCells_len]; exact (Nat.min_self _).symm) (copy_src (HP.out.below hb1)) (by rw [byteCells_len, HZL.out]; omega) (byteCells_one l) w.heap.size w hb1 (Nat.le_refl _) ?_; intro w2 hb2 hbl2))
  go_ret
  have hsp : splice Z 0 (byteCells l) = byteCells l := by
    unfold splice
    rw [List.take_zero, List.nil_append, Nat.zero_add, List.drop_of_length_le (by rw [byteCells_len, HZL.out]; exact Nat.le_refl _), List.append_nil]
  have hb3 := hb2.out
  rw [hsp] at hb3
  have hw := own_of_block (Nat.le_refl w.heap.size) hb3 (by rw [byteCells_len]; unfold maxLen; omega)
  rw [byteCells_len] at hw
  exact ⟨_, rfl, hw, hbl2⟩
end Go.Proofs.YtddihhpahghajaaDoor.ref
