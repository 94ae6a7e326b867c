/- PlateNil. No condition. -/
import Derived.Test.YthcncigeokpioaaPka
import Derived.Test.YthcncigeokpioaaPltOp
namespace Go.Proofs.Ythcncigeokpioaa.plt
open Go.RowKit
open Go.Proofs.Ythcncigeokpioaa.oct Go.Proofs.Ythcncigeokpioaa.ref Go.Proofs.Ythcncigeokpioaa.rows
open Go.Lib (byteCells)

set_option maxRecDepth 100000 in
set_option maxHeartbeats 16000000 in
theorem g_nil (x : opn.SP) (w : World) (_hg : opn.GoodS w x) :
    Calls Try.prog 8 #[.agg (opn.spenc x).toArray] w fun e w' => e = .returned (.bool true) ∧ Below w.heap.size w w' := by
  have hb0 := (Below.refl w.heap.size w).alloc (Nat.le_refl _) (.cells (opn.spenc x).toArray 36)
  have hB := blk_new w (opn.spenc x).toArray 36 _ rfl
  have HK := Lib.hid (fun W => known_c W W (Below.refl _ _))
  have HB0 := Lib.hid hb0
  have HBB := Lib.hid hB
  unfold opn.spenc at hB ⊢
  have c1 := hB.cell 1
  have c2 := hB.cell 2
  have c3 := hB.cell 3
  have c4 := hB.cell 4
  obtain ⟨w1, hw1⟩ : ∃ w1, w.alloc (.cells #[.int .i64 x.k, .string ⟨x.n.toArray⟩, .slice x.p x.d.length x.c, .int .i64 x.m, .slice x.q x.ks.length x.e] 36) = w1 := ⟨_, rfl⟩
  have d1 : w1.cell? ⟨w.heap.size, 1, none⟩ = some (.string ⟨x.n.toArray⟩) := by rw [← hw1]; exact c1
  have d2 : w1.cell? ⟨w.heap.size, 2, none⟩ = some (.slice x.p x.d.length x.c) := by rw [← hw1]; exact c2
  have d3 : w1.cell? ⟨w.heap.size, 3, none⟩ = some (.int .i64 x.m) := by rw [← hw1]; exact c3
  have d4 : w1.cell? ⟨w.heap.size, 4, none⟩ = some (.slice x.q x.ks.length x.e) := by rw [← hw1]; exact c4
  have HB1 : Hid (Below w.heap.size w w1) := by show Below _ _ _; rw [← hw1]; exact HB0.out
  have hsz : w.heap.size < w1.heap.size := by rw [← hw1]; simp
  clear hB hb0 HBB HB0 c1 c2 c3 c4
  go_enter Try.func8, Try.ntmps8
  go_wp2_with (first
    | (go_at_call 10; refine (HK.out _).mono ?_; rintro e w2 ⟨rfl, hb2⟩; have HB2 := Lib.hid hb2; have e1 := (hb2.cell (p := ⟨w.heap.size, 1, none⟩) hsz).trans d1; have e2 := (hb2.cell (p := ⟨w.heap.size, 2, none⟩) hsz).trans d2; have e3 := (hb2.cell (p := ⟨w.heap.size, 3, none⟩) hsz).trans d3; clear hb2 d1 d2 d3 d4)
    | (go_at_call 20; refine (arm_nil _ _).mono ?_; rintro e w9 ⟨rfl, rfl⟩)
    | (go_at_call 14; refine (crash_nil _ _).mono ?_; rintro e w9 ⟨rfl, rfl⟩)
    | (go_at_call 18; refine (read_nil _ _).mono ?_; rintro e w9 ⟨rfl, rfl⟩)
    | (go_at_call 22; refine (append_nil _ _ _).mono ?_; rintro e w9 ⟨rfl, rfl⟩)
    | (go_at_call 28; refine (sync_nil _ _).mono ?_; rintro e w9 ⟨rfl, rfl⟩)
    | (go_at_call 29; refine (cut_nil _ _ _).mono ?_; rintro e w9 ⟨rfl, rfl⟩)
    | (go_at_call 15; refine (names_nil _).mono ?_; rintro e w9 ⟨rfl, rfl⟩)
    | (go_at_call 21; refine (used_nil _).mono ?_; rintro e w9 ⟨rfl, rfl⟩)
    | (go_at_call 16; refine (synced_nil _ _).mono ?_; rintro e w9 ⟨rfl, rfl⟩)
    | (go_at_call 17; refine (down_nil _).mono ?_; rintro e w9 ⟨rfl, rfl⟩)
    | (go_at_call 13; refine (copy_nil _).mono ?_; rintro e w9 ⟨rfl, rfl⟩))
  go_ret
  exact ⟨rfl, bnext HB1.out HB2.out⟩
end Go.Proofs.Ythcncigeokpioaa.plt
