/- The contract of the laws' same: are two digests the same? -/
import Derived.Test.YtohmhcglmaifpaaDoorSha6
import Derived.Test.YtohmhcglmaifpaaDoorR1Same
namespace Go.Proofs.YtohmhcglmaifpaaDoor.sha
open Go.RowKit
open Go.Proofs.YtohmhcglmaifpaaDoor.oct Go.Proofs.YtohmhcglmaifpaaDoor.ref Go.Proofs.YtohmhcglmaifpaaDoor.rows
open Go.Lib (byteCells)

theorem below_drewN' {w w' : World} (n : Nat) (h : w' = w.drewN n) : Below w.heap.size w w' := by subst h; exact below_drewN (Below.refl _ _) n

set_option maxHeartbeats 400000 in
theorem same_c (a b : List UInt8) (w : World) (ha : a.length = 32) (hb : b.length = 32) :
    Calls Tryd.prog 12 #[.agg (byteCells a).toArray, .agg (byteCells b).toArray] w fun e w' => e = .returned (.bool (decide (a = b))) ∧ Below w.heap.size w w' := by
  have hA : Blk (w.alloc (.cells (byteCells a).toArray 26)) w.heap.size 26 (byteCells a) := blk_new _ _ _ _ rfl
  have hB : Blk ((w.alloc (.cells (byteCells a).toArray 26)).alloc (.cells (byteCells b).toArray 28)) (w.heap.size + 1) 28 (byteCells b) := by
    have := blk_new (w.alloc (.cells (byteCells a).toArray 26)) _ 28 (byteCells b) rfl
    simpa using this
  have hA2 := blk_old hA (.cells (byteCells b).toArray 28)
  have hb0 : Below w.heap.size w ((w.alloc (.cells (byteCells a).toArray 26)).alloc (.cells (byteCells b).toArray 28)) := ((Below.refl _ _).alloc (Nat.le_refl _) _).alloc (by simp) _
  obtain ⟨A, hAe⟩ : ∃ A, (byteCells a).toArray = A := ⟨_, rfl⟩
  obtain ⟨B, hBe⟩ : ∃ B, (byteCells b).toArray = B := ⟨_, rfl⟩
  have hAs : A.size = 32 := by rw [← hAe, List.size_toArray, byteCells_len, ha]
  have hBs : B.size = 32 := by rw [← hBe, List.size_toArray, byteCells_len, hb]
  rw [hAe, hBe] at hB hA2 hb0
  rw [hAe, hBe]
  have h8a := in8_all hA2
  have h8b := in8_all hB
  clear hA hA2 hB hAe hBe
  go_enter Tryd.func12, Tryd.ntmps12
  go_wp2_with fail
  obtain ⟨wz, hwz⟩ : ∃ wz, (w.alloc (.cells A 26)).alloc (.cells B 28) = wz := ⟨_, rfl⟩
  rw [hwz] at hb0 h8a h8b ⊢
  have C1 := Lib.hid (fun x : After wz => after_of x ((rsame_c (some ⟨w.heap.size, 0, none⟩) (some ⟨w.heap.size + 1, 0, none⟩) 32 32 a b x.v (h8a.below x.below) (h8b.below x.below) (by omega)).mono fun e w' ⟨h1, n, h2⟩ => ⟨h1, below_drewN' n h2⟩))
  rw [ha, hb] at C1
  clear hwz hAs hBs
  refine wp_region_after (by kernel_rfl) (by kernel_rfl) ?_
  repeat (go_big_quiet_step (first
    | (rename_i x; go_at_call 25; with_reducible exact C1.out x)))
  refine wpQuiet_nil ?_
  rintro ⟨wq, hxb⟩
  dsimp only
  have hbq := bnext hb0 hxb
  go_wp2_with fail
  go_ret
  exact ⟨rfl, hbq⟩
end Go.Proofs.YtohmhcglmaifpaaDoor.sha
