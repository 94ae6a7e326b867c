/- CrcSums, CrcParts, CrcKeeps: the walks of the laws. Condition: the table of sixteen sums holds what the program's text lays; CrcParts: rows of up to 2^47 bytes together. -/
import Derived.Test.YtbfhliagkiigpaaDoorCrc2
import Derived.Test.YtbfhliagkiigpaaDoorR1Copy
import Derived.Test.YtbfhliagkiigpaaDoorR1Kept
namespace Go.Proofs.YtbfhliagkiigpaaDoor.crcA
open Go.RowKit
open Go.Proofs.YtbfhliagkiigpaaDoor.oct Go.Proofs.YtbfhliagkiigpaaDoor.ref Go.Proofs.YtbfhliagkiigpaaDoor.crc
open Go.Lib (byteCells)

set_option maxHeartbeats 1000000 in
theorem sums (s : Nat) (p : Option Addr) (cp : Nat) (l : List UInt8) (w : World) (hs : s < 4294967296) (hp : In8 w p l) (hl : l.length ≤ 9223372036854775807) (ht : Tab w) :
    Calls Tryd.prog 3 #[.int .u32 s, .slice p l.length cp] w fun e w' => e = .returned (.bool true) ∧ Below w.heap.size w w' := by
  have HP := Lib.hid hp
  have HT := Lib.hid ht
  clear hp ht
  go_enter Tryd.func3, Tryd.ntmps3
  go_wp2_with fail
  refine (known_c w HT.out).mono ?_
  rintro e w1 ⟨rfl, hb1⟩
  have q1 := HP.out.below hb1
  have t1 := HT.out.below hb1
  go_wp2_with fail
  refine (more_c s p cp l w1 hs q1 t1 hl).mono ?_
  rintro e w2 ⟨rfl, rfl⟩
  go_wp2_with fail
  refine (rmore_c s p cp l w1 hs q1 hl).mono ?_
  rintro e w2 ⟨rfl, rfl⟩
  go_wp2_with fail
  refine (sum_c p cp l w1 q1 t1 hl).mono ?_
  rintro e w2 ⟨rfl, rfl⟩
  go_wp2_with fail
  refine (rsum_c p cp l w1 q1 hl).mono ?_
  rintro e w2 ⟨rfl, rfl⟩
  go_wp2_with fail
  go_ret
  exact ⟨rfl, hb1⟩

set_option maxHeartbeats 1000000 in
theorem keeps (p : Option Addr) (cp : Nat) (l : List UInt8) (w : World) (hp : In8 w p l) (hl : l.length ≤ 140737488351232) (ht : Tab w) :
    Calls Tryd.prog 7 #[.slice p l.length cp] w fun e w' => e = .returned (.bool true) ∧ Below w.heap.size w w' := by
  have HP := Lib.hid hp
  have HT := Lib.hid ht
  clear hp ht
  go_enter Tryd.func7, Tryd.ntmps7
  go_wp2_with fail
  refine (room_c p cp l w HP.out hl).mono ?_
  rintro e w1 ⟨rfl, hR1, hb1⟩
  have q1 := HP.out.below hb1
  have t1 := HT.out.below hb1
  go_wp2_with fail
  refine (known_c w1 t1).mono ?_
  rintro e w2 ⟨rfl, hb2⟩
  have hR2 := hR1.below hb2
  have q2 := q1.below hb2
  have t2 := t1.below hb2
  clear hR1 q1 t1
  go_wp2_with fail
  refine (sum_c _ _ l w2 (in8_blk hR2) t2 (by omega)).mono ?_
  rintro e w3 ⟨rfl, rfl⟩
  go_wp2_with fail
  refine (sum_c p cp l w2 q2 t2 (by omega)).mono ?_
  rintro e w3 ⟨rfl, rfl⟩
  go_wp2_with fail
  refine (kept_c _ p cp l w2 hR2 q2 hl).mono ?_
  rintro e w3 ⟨rfl, nd, rfl⟩
  go_wp2_with fail
  go_ret
  exact ⟨rfl, below_drewN (bnext hb1 hb2) nd⟩
end Go.Proofs.YtbfhliagkiigpaaDoor.crcA
