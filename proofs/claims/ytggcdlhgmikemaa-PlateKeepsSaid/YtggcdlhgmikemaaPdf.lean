/- The developers' plate: New, Arm, Down, Used. No condition. -/
import Derived.Test.YtggcdlhgmikemaaPde
namespace Go.Proofs.Ytggcdlhgmikemaa.plt
open Go.RowKit
open Go.Proofs.Ytggcdlhgmikemaa.oct Go.Proofs.Ytggcdlhgmikemaa.ref Go.Proofs.Ytggcdlhgmikemaa.rows

/-- a plate that is new: its map, its cells -/
def NewPl (w w' : World) (n : Nat) (e : Ending) : Prop := e = .returned (.tuple #[dptr (w.heap.size + 1), .int .i64 0]) ∧ w' = (w.alloc (.map #[] 0)).alloc (.cells (pcells n 0 (.map (some w.heap.size)) (-1) false).toArray 64)
theorem newpl_mk (w : World) (n : Nat) : NewPl w ((w.alloc (.map #[] 0)).alloc (.cells #[.int .i64 (n : Nat), .int .i64 0, .map (some w.heap.size), .int .i64 (-1), .bool false] 64)) n (.returned (.tuple #[.pointer (some ⟨w.heap.size + 1, 0, none⟩), .int .i64 0])) := ⟨rfl, rfl⟩
set_option maxHeartbeats 1000000 in
theorem pnew_c (w : World) (n : Nat) (h2 : n ≤ 268435456) :
    Calls Try.prog 9 #[.int .i64 (n : Nat)] w fun e w' => NewPl w w' n e := by
  have hmm := @run_makeMap Try.prog
  have i1 : ¬ ((n : Int) < 0) := by omega
  have i2 : ¬ ((n : Int) > 268435456) := by omega
  go_enter Try.func9, Try.ntmps9
  go_wp2_with fail
  go_ret2
  exact newpl_mk w n
theorem pnew_no (w : World) (n : Int) (h : ¬ (0 ≤ n ∧ n ≤ 268435456)) :
    Calls Try.prog 9 #[.int .i64 n] w fun e w' => e = .returned (.tuple #[.pointer none, .int .i64 1]) ∧ w = w' := by
  by_cases h1 : n < 0
  · go_enter Try.func9, Try.ntmps9
    go_wp2_with fail
    go_ret2
    exact ⟨rfl, rfl⟩
  · have h2 : n > 268435456 := by omega
    go_enter Try.func9, Try.ntmps9
    go_wp2_with fail
    go_ret2
    exact ⟨rfl, rfl⟩
theorem pused_c {w : World} {g room used : Nat} {m : Value} {k : Int} {down : Bool} (h : Blk w g 64 (pcells room used m k down)) :
    Calls Try.prog 21 #[dptr g] w fun e w' => e = .returned (.int .i64 (used : Nat)) ∧ w = w' := by
  have c1 : w.cell? ⟨g, 1, none⟩ = some (.int .i64 (used : Nat)) := h.cell 1
  clear h
  go_enter Try.func21, Try.ntmps21
  go_wp2_with fail
  go_ret
  exact ⟨rfl, rfl⟩
theorem pdown_c {w : World} {g room used : Nat} {m : Value} {k : Int} {down : Bool} (h : Blk w g 64 (pcells room used m k down)) :
    Calls Try.prog 17 #[dptr g] w fun e w' => e = .returned (.bool down) ∧ w = w' := by
  have c4 : w.cell? ⟨g, 4, none⟩ = some (.bool down) := h.cell 4
  clear h
  go_enter Try.func17, Try.ntmps17
  go_wp2_with fail
  go_ret
  exact ⟨rfl, rfl⟩
theorem parm_c {w : World} {g room used : Nat} {m : Value} {k : Int} {down : Bool} (h : Blk w g 64 (pcells room used m k down)) (n : Int) :
    Calls Try.prog 20 #[dptr g, .int .i64 n] w fun e w' => e = .returned (.tuple #[]) ∧ Blk w' g 64 (pcells room used m (if down then k else n) down) ∧ w.grownBy w' (some g) := by
  have c3 : w.cell? ⟨g, 3, none⟩ = some (.int .i64 k) := h.cell 3
  have c4 : w.cell? ⟨g, 4, none⟩ = some (.bool down) := h.cell 4
  have f3 := h.frozen 3
  have HB := Lib.hid h
  have HB2 : Hid (Blk (w.setCell ⟨g, 3, none⟩ (.int .i64 n)) g 64 (pcells room used m n down) ∧ w.grownBy (w.setCell ⟨g, 3, none⟩ (.int .i64 n)) (some g)) := ⟨h.set 3 _, ⟨rfl, rfl, rfl, by simp, fun k _ hn => Below.heap_setCell _ _ _ _ (by exact fun e => hn (congrArg some e))⟩⟩
  have HS := Lib.hid (World.grownBy.refl w (some g))
  clear h
  cases hd : down with
  | true =>
    rw [hd] at c4 HB
    go_enter Try.func20, Try.ntmps20
    go_wp2_with fail
    go_end0
    exact ⟨rfl, HB.out, HS.out⟩
  | false =>
    rw [hd] at c4 HB2
    go_enter Try.func20, Try.ntmps20
    go_wp2_with fail
    go_end0
    exact ⟨rfl, HB2.out.1, HB2.out.2⟩
end Go.Proofs.Ytggcdlhgmikemaa.plt
