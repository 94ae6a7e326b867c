/- What a hash holds (Holds: the bytes that it was told); the contracts of New, Write, Len. Condition: the two tables hold what the program's text lays. -/
import Derived.Test.YtohmhcglmaifpaaDoorDev4
import Derived.Test.YtohmhcglmaifpaaDoorSha8
namespace Go.Proofs.YtohmhcglmaifpaaDoor.sha
open Go.RowKit
open Go.Proofs.YtohmhcglmaifpaaDoor.oct Go.Proofs.YtohmhcglmaifpaaDoor.ref Go.Proofs.YtohmhcglmaifpaaDoor.rows
open Go.Lib (byteCells)

/-- block g is a hash that was told L -/
def Holds (w : World) (g : Nat) (L : List UInt8) : Prop :=
  g ≠ 0 ∧ g ≠ 1 ∧ ∃ f b, Blk w g 52 (hrow f b L.length) ∧ (∀ i, i < 8 → f i < 4294967296) ∧ stOf (wsum f) = blocks st0 L (L.length / 64) ∧ ∀ j, j < L.length % 64 → b j = L.getD (64 * (L.length / 64) + j) 0
theorem blocks_append (v : St) (L M : List UInt8) (n : Nat) (h : 64 * n ≤ L.length) : blocks v (L ++ M) n = blocks v L n := by
  induction n with
  | zero => rfl
  | succ n ih =>
    show takeB (blocks v (L ++ M) n) _ = takeB (blocks v L n) _
    rw [ih (by omega), List.drop_append_of_le_length (by omega), List.take_append_of_le_length (by rw [List.length_drop]; omega)]
theorem list_eq64 {l m : List UInt8} (hl : l.length = 64) (hm : m.length = 64) (h : ∀ j, j < 64 → l.getD j 0 = m.getD j 0) : l = m := by
  apply List.ext_getElem (by omega)
  intro i h1 h2
  have := h i (by omega)
  simpa [List.getD, List.getElem?_eq_getElem h1, List.getElem?_eq_getElem h2] using this
/-- bytes laid behind those of the block that is not full: what the hash holds then, the block not full -/
theorem holds_lay {w' : World} {g : Nat} {L m : List UInt8} {f b} (h0 : g ≠ 0) (h1 : g ≠ 1) (hf : ∀ i, i < 8 → f i < 4294967296) (hs : stOf (wsum f) = blocks st0 L (L.length / 64)) (hb : ∀ j, j < L.length % 64 → b j = L.getD (64 * (L.length / 64) + j) 0)
    (hm : L.length % 64 + m.length < 64) (hB : Blk w' g 52 (hrow f (lay b (L.length % 64) m) (L.length + m.length))) : Holds w' g (L ++ m) := by
  have e1 : (L.length + m.length) / 64 = L.length / 64 := by omega
  have e2 : (L.length + m.length) % 64 = L.length % 64 + m.length := by omega
  refine ⟨h0, h1, f, lay b (L.length % 64) m, by rw [List.length_append]; exact hB, hf, ?_, ?_⟩
  · rw [List.length_append, e1, blocks_append _ _ _ _ (by omega), hs]
  · intro j hj
    rw [List.length_append, e2] at hj
    rw [List.length_append, e1]
    unfold lay
    by_cases hr : L.length % 64 ≤ j
    · rw [if_pos ⟨hr, hj⟩]
      simp only [List.getD]
      rw [List.getElem?_append_right (by omega)]
      congr 2; omega
    · rw [if_neg (by omega), hb j (by omega)]
      simp only [List.getD]
      rw [List.getElem?_append_left (by omega)]
/-- .. and the block full and taken -/
theorem holds_full {w' : World} {g : Nat} {L m : List UInt8} {f b} (h0 : g ≠ 0) (h1 : g ≠ 1) (hs : stOf (wsum f) = blocks st0 L (L.length / 64)) (hb : ∀ j, j < L.length % 64 → b j = L.getD (64 * (L.length / 64) + j) 0)
    (hm : L.length % 64 + m.length = 64) (hB : Blk w' g 52 (hrow (moved f (lay b (L.length % 64) m)) (lay b (L.length % 64) m) (L.length + m.length))) : Holds w' g (L ++ m) := by
  have e1 : (L.length + m.length) / 64 = L.length / 64 + 1 := by omega
  have e2 : (L.length + m.length) % 64 = 0 := by omega
  refine ⟨h0, h1, _, _, by rw [List.length_append]; exact hB, fun i _ => moved_lt _ _ _, ?_, ?_⟩
  · rw [List.length_append, e1, moved_sum, hs]
    show _ = takeB (blocks st0 (L ++ m) (L.length / 64)) _
    rw [blocks_append _ _ _ _ (by omega)]
    congr 1
    refine list_eq64 (brow_len _ _) (by rw [List.length_take, List.length_drop, List.length_append]; omega) fun j hj => ?_
    have hbr : (brow 64 (lay b (L.length % 64) m)).getD j 0 = lay b (L.length % 64) m j := by simp [brow, List.getD, hj]
    rw [hbr]
    simp only [List.getD]
    rw [List.getElem?_take, if_pos hj, List.getElem?_drop]
    unfold lay
    by_cases hr : L.length % 64 ≤ j
    · rw [if_pos ⟨hr, by omega⟩, List.getElem?_append_right (by omega)]
      simp only [List.getD]
      congr 2; omega
    · rw [if_neg (by omega), hb j (by omega), List.getElem?_append_left (by omega)]
      simp only [List.getD]
  · intro j hj
    rw [List.length_append, e2] at hj
    omega
theorem Holds.keep {w w' : World} {g : Nat} {L : List UInt8} (h : Holds w g L) (he : w'.heap[g]? = w.heap[g]?) : Holds w' g L := by
  obtain ⟨h0, h1, f, b, hB, r⟩ := h
  exact ⟨h0, h1, f, b, he.trans hB, r⟩
theorem Holds.lt {w : World} {g : Nat} {L : List UInt8} (h : Holds w g L) : g < w.heap.size := by
  obtain ⟨_, _, f, b, hB, _⟩ := h
  exact hB.lt
theorem wsum_zero : stOf (wsum fun _ => 0) = st0 := by kernel_rfl
theorem holds_zero {w : World} {g : Nat} (h0 : g ≠ 0) (h1 : g ≠ 1) (hB : Blk w g 52 (hrow (fun _ => 0) (fun _ => 0) 0)) : Holds w g [] :=
  ⟨h0, h1, _, _, hB, fun _ _ => by decide, wsum_zero, fun j hj => by simp at hj⟩
theorem zero_hash (w : World) : (zeroValue 52).run Tryd.prog w = .ok (.agg (hrow (fun _ => 0) (fun _ => 0) 0).toArray) w := by kernel_rfl

set_option maxHeartbeats 1000000 in
theorem hnew_c (w : World) (ht : Tabs w) : Calls Tryd.prog 18 #[] w fun e w' => ∃ g, e = .returned (.pointer (some ⟨g, 0, none⟩)) ∧ w.heap.size ≤ g ∧ Holds w' g [] ∧ Below w.heap.size w w' := by
  have HG := Lib.hid ht.lt
  have hz := zero_hash
  obtain ⟨R, hR⟩ : ∃ R, hrow (fun _ => 0) (fun _ => 0) 0 = R := ⟨_, rfl⟩
  rw [hR] at hz
  have HR := Lib.hid hR
  clear ht hR
  go_enter Tryd.func18, Tryd.ntmps18
  go_wp2_with fail
  go_ret
  refine ⟨w.heap.size, rfl, Nat.le_refl _, holds_zero (by have := HG.out; omega) (by have := HG.out; omega) ?_, (Below.refl _ _).alloc (Nat.le_refl _) _⟩
  rw [HR.out]
  exact blk_new w _ _ R rfl
set_option maxHeartbeats 1000000 in
theorem hlen_c (g : Nat) (L : List UInt8) (w : World) (h : Holds w g L) : Calls Tryd.prog 20 #[.pointer (some ⟨g, 0, none⟩)] w fun e w' => e = .returned (.int .i64 (L.length : Nat)) ∧ Below w.heap.size w w' := by
  obtain ⟨_, _, f, b, hB, _⟩ := h
  have c := (hB.cell 72).trans (hrow_told f b L.length)
  clear hB
  go_enter Tryd.func20, Tryd.ntmps20
  go_wp2_with fail
  go_ret
  exact ⟨rfl, Below.refl _ _⟩
end Go.Proofs.YtohmhcglmaifpaaDoor.sha
