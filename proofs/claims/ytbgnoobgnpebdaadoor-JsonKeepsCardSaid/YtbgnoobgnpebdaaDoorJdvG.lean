/- The contracts of the developers' Clone, Text, Int, Bool, Get. Names and texts within the reach. -/
import Derived.Test.YtbgnoobgnpebdaaDoorJdvF
import Derived.Test.YtbgnoobgnpebdaaDoorAfter
import Derived.Deep.DeepBigQuietO
namespace Go.Proofs.YtbgnoobgnpebdaaDoor.jdv
open Go.RowKit
open Go.Proofs.YtbgnoobgnpebdaaDoor.oct Go.Proofs.YtbgnoobgnpebdaaDoor.ref Go.Proofs.YtbgnoobgnpebdaaDoor.rows Go.Proofs.YtbgnoobgnpebdaaDoor.rowg Go.Proofs.YtbgnoobgnpebdaaDoor.jsn
open Go.Lib (byteCells hasPrefix trimPrefix)

set_option maxHeartbeats 1000000 in
theorem clone_c (s : ByteArray) (w : World) (hs : s.size ≤ 281474976710656) : Calls Tryd.prog 33 #[.string s] w fun e w' => e = .returned (.string s) ∧ Below w.heap.size w w' := by
  have HI := Lib.hid (sh.sclone s w hs)
  go_enter Tryd.func33, Tryd.ntmps33
  go_wp2_with (go_at_call 44; refine HI.out.mono ?_; rintro e w' ⟨rfl, hb⟩)
  go_ret
  exact ⟨rfl, hb⟩
set_option maxRecDepth 100000 in
set_option maxHeartbeats 4000000 in
theorem int_c (nm : List UInt8) (k : Int) (w : World) (hn : nm.length ≤ 140737488351232) :
    Calls Tryd.prog 17 #[tx nm, .int .i64 k] w fun e w' => e = .returned (mv ⟨nm, 1, [], k, false⟩) ∧ Below w.heap.size w w' := by
  have HC := Lib.hid (fun w => clone_c ⟨nm.toArray⟩ w (by rw [size_mk]; omega))
  have hE : Blk (w.alloc (.cells #[.string ⟨#[]⟩, .int .i64 0, .string ⟨#[]⟩, .int .i64 0, .bool false] 38)) w.heap.size 38 [.string ⟨#[]⟩, .int .i64 0, .string ⟨#[]⟩, .int .i64 0, .bool false] := blk_new w _ _ _ rfl
  have HE := Lib.hid hE
  have HB0 := Lib.hid ((Below.refl w.heap.size w).alloc (Nat.le_refl _) (.cells #[.string ⟨#[]⟩, .int .i64 0, .string ⟨#[]⟩, .int .i64 0, .bool false] 38))
  clear hE
  unfold tx
  go_enter Tryd.func17, Tryd.ntmps17
  go_wp2_with fail
  refine (HC.out _).mono ?_
  rintro e w2 ⟨rfl, hb2⟩
  have hE2 := HE.out.below hb2
  have HBW := Lib.hid (bnext HB0.out hb2)
  have HE2 := Lib.hid hE2
  have c0 := hE2.cell 0
  have c1 := hE2.cell 1
  have c2 := hE2.cell 2
  have c3 := hE2.cell 3
  have c4 := hE2.cell 4
  have f0 := hE2.frozen 0
  have f1 := hE2.frozen 1
  have f2 := hE2.frozen 2
  have f3 := hE2.frozen 3
  have f4 := hE2.frozen 4
  clear hE2 hb2
  go_wp2_with fail
  clear c0 c1 c2 c3 c4 f0 f1 f2 f3 f4
  refine bodyPost_ret (v := .agg ([.string ⟨nm.toArray⟩, .int .i64 1, .string ⟨#[]⟩, .int .i64 k, .bool false] : List Value).toArray) (results_blk Tryd.results17 _ _ w.heap.size 38 [.string ⟨nm.toArray⟩, .int .i64 1, .string ⟨#[]⟩, .int .i64 k, .bool false] _ rfl (set5_blk (HE2.out) _ _ _ _ _) Tryd.underlying38 rfl infoMem) rfl ⟨rfl, HBW.out.trans (set5_below _ _ _ _ _ _ _)⟩
set_option maxRecDepth 100000 in
set_option maxHeartbeats 4000000 in
theorem bool_c (nm : List UInt8) (k : Bool) (w : World) (hn : nm.length ≤ 140737488351232) :
    Calls Tryd.prog 18 #[tx nm, .bool k] w fun e w' => e = .returned (mv ⟨nm, 2, [], 0, k⟩) ∧ Below w.heap.size w w' := by
  have HC := Lib.hid (fun w => clone_c ⟨nm.toArray⟩ w (by rw [size_mk]; omega))
  have hE : Blk (w.alloc (.cells #[.string ⟨#[]⟩, .int .i64 0, .string ⟨#[]⟩, .int .i64 0, .bool false] 38)) w.heap.size 38 [.string ⟨#[]⟩, .int .i64 0, .string ⟨#[]⟩, .int .i64 0, .bool false] := blk_new w _ _ _ rfl
  have HE := Lib.hid hE
  have HB0 := Lib.hid ((Below.refl w.heap.size w).alloc (Nat.le_refl _) (.cells #[.string ⟨#[]⟩, .int .i64 0, .string ⟨#[]⟩, .int .i64 0, .bool false] 38))
  clear hE
  unfold tx
  go_enter Tryd.func18, Tryd.ntmps18
  go_wp2_with fail
  refine (HC.out _).mono ?_
  rintro e w2 ⟨rfl, hb2⟩
  have hE2 := HE.out.below hb2
  have HBW := Lib.hid (bnext HB0.out hb2)
  have HE2 := Lib.hid hE2
  have c0 := hE2.cell 0
  have c1 := hE2.cell 1
  have c2 := hE2.cell 2
  have c3 := hE2.cell 3
  have c4 := hE2.cell 4
  have f0 := hE2.frozen 0
  have f1 := hE2.frozen 1
  have f2 := hE2.frozen 2
  have f3 := hE2.frozen 3
  have f4 := hE2.frozen 4
  clear hE2 hb2
  go_wp2_with fail
  clear c0 c1 c2 c3 c4 f0 f1 f2 f3 f4
  refine bodyPost_ret (v := .agg ([.string ⟨nm.toArray⟩, .int .i64 2, .string ⟨#[]⟩, .int .i64 0, .bool k] : List Value).toArray) (results_blk Tryd.results18 _ _ w.heap.size 38 [.string ⟨nm.toArray⟩, .int .i64 2, .string ⟨#[]⟩, .int .i64 0, .bool k] _ rfl (set5_blk (HE2.out) _ _ _ _ _) Tryd.underlying38 rfl infoMem) rfl ⟨rfl, HBW.out.trans (set5_below _ _ _ _ _ _ _)⟩
set_option maxRecDepth 100000 in
set_option maxHeartbeats 4000000 in
theorem text_make (nm t : List UInt8) (w : World) (hn : nm.length ≤ 140737488351232) (ht : t.length ≤ 140737488351232) :
    Calls Tryd.prog 16 #[tx nm, tx t] w fun e w' => e = .returned (mv ⟨nm, 0, t, 0, false⟩) ∧ Below w.heap.size w w' := by
  have HC := Lib.hid (fun w => clone_c ⟨nm.toArray⟩ w (by rw [size_mk]; omega))
  have HD := Lib.hid (fun w => clone_c ⟨t.toArray⟩ w (by rw [size_mk]; omega))
  have hE : Blk (w.alloc (.cells #[.string ⟨#[]⟩, .int .i64 0, .string ⟨#[]⟩, .int .i64 0, .bool false] 38)) w.heap.size 38 [.string ⟨#[]⟩, .int .i64 0, .string ⟨#[]⟩, .int .i64 0, .bool false] := blk_new w _ _ _ rfl
  have HE := Lib.hid hE
  have HB0 := Lib.hid ((Below.refl w.heap.size w).alloc (Nat.le_refl _) (.cells #[.string ⟨#[]⟩, .int .i64 0, .string ⟨#[]⟩, .int .i64 0, .bool false] 38))
  clear hE
  unfold tx
  go_enter Tryd.func16, Tryd.ntmps16
  go_wp2_with fail
  refine (HC.out _).mono ?_
  rintro e w1 ⟨rfl, hb1⟩
  have HB1 := Lib.hid hb1
  clear hb1
  go_wp2_with fail
  refine (HD.out _).mono ?_
  rintro e w2 ⟨rfl, hb2⟩
  have hE2 := (HE.out.below HB1.out).below hb2
  have HBW := Lib.hid (bnext (bnext HB0.out HB1.out) hb2)
  have HE2 := Lib.hid hE2
  have c0 := hE2.cell 0
  have c1 := hE2.cell 1
  have c2 := hE2.cell 2
  have c3 := hE2.cell 3
  have c4 := hE2.cell 4
  have f0 := hE2.frozen 0
  have f1 := hE2.frozen 1
  have f2 := hE2.frozen 2
  have f3 := hE2.frozen 3
  have f4 := hE2.frozen 4
  clear hE2 hb2
  go_wp2_with fail
  clear c0 c1 c2 c3 c4 f0 f1 f2 f3 f4
  refine bodyPost_ret (v := .agg ([.string ⟨nm.toArray⟩, .int .i64 0, .string ⟨t.toArray⟩, .int .i64 0, .bool false] : List Value).toArray) (results_blk Tryd.results16 _ _ w.heap.size 38 [.string ⟨nm.toArray⟩, .int .i64 0, .string ⟨t.toArray⟩, .int .i64 0, .bool false] _ rfl (set5_blk (HE2.out) _ _ _ _ _) Tryd.underlying38 rfl infoMem) rfl ⟨rfl, HBW.out.trans (set5_below _ _ _ _ _ _ _)⟩
end Go.Proofs.YtbgnoobgnpebdaaDoor.jdv
