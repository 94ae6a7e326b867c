/- CrcParts: the walk of the law. Conditions: the table of sixteen sums holds what the program's text lays; rows of up to 2^47 bytes together. -/
import Derived.Test.YtbfhliagkiigpaaDoorCrc2
import Derived.Test.YtbfhliagkiigpaaDoorR1Copy
namespace Go.Proofs.YtbfhliagkiigpaaDoor.crcB
open Go.RowKit
open Go.Proofs.YtbfhliagkiigpaaDoor.oct Go.Proofs.YtbfhliagkiigpaaDoor.ref Go.Proofs.YtbfhliagkiigpaaDoor.crc
open Go.Lib (byteCells)

/-- what is known behind the append: both rows, and the row of both -/
def Facts (p q pA : Option Addr) (l m A : List UInt8) (w : World) : Prop := (In8 w p l ∧ In8 w q m ∧ In8 w pA A) ∧ Tab w
theorem Facts.below {p q pA : Option Addr} {l m A : List UInt8} {w w' : World} (h : Facts p q pA l m A w) (hb : Below w.heap.size w w') : Facts p q pA l m A w' :=
  ⟨⟨h.1.1.below hb, h.1.2.1.below hb, h.1.2.2.below hb⟩, h.2.below hb⟩

set_option maxHeartbeats 2000000 in
theorem parts (s : Nat) (p : Option Addr) (cp : Nat) (l : List UInt8) (q : Option Addr) (cq : Nat) (m : List UInt8) (w : World) (hs : s < 4294967296) (hp : In8 w p l) (hq : In8 w q m) (hlm : l.length + m.length ≤ 140737488355328) (hnil : q = none → cq = 0) (ht : Tab w) :
    Calls Tryd.prog 4 #[.int .u32 s, .slice p l.length cp, .slice q m.length cq] w fun e w' => e = .returned (.bool true) ∧ Below w.heap.size w w' := by
  obtain ⟨j0, hj, hy0, hy1, hy2⟩ := info_parts infoByte
  have HP := Lib.hid hp
  have HQ := Lib.hid hq
  have HT := Lib.hid ht
  have HM : Hid (q = none → m = [] ∧ cq = 0) := by
    intro h
    refine ⟨?_, hnil h⟩
    rcases m with _ | ⟨a, m⟩
    · rfl
    · obtain ⟨b, o, h1, _⟩ := hq (by simp)
      rw [h] at h1
      cases h1
  have HE : Hid (more (more s l) m = more s (l ++ m)) := (more_append s l m).symm
  have HZ : Hid (more s l < 4294967296) := more_lt hs l
  clear hp hq hnil ht
  obtain ⟨A, hA⟩ : ∃ A, l ++ m = A := ⟨_, rfl⟩
  rw [hA] at HE
  have hAl : A.length ≤ 140737488355328 := by rw [← hA, List.length_append]; omega
  have HBA : Hid (byteCells l ++ byteCells m = byteCells A) := by show _ = _; rw [← byteCells_append, hA]
  have HA : Hid (l ++ m = A) := hA
  clear hA
  rcases q with _ | ad
  · obtain ⟨rfl, rfl⟩ := HM.out rfl
    have HLA : Hid (l = A) := by show _ = _; rw [← HA.out, List.append_nil]
    go_enter Tryd.func4, Tryd.ntmps4
    go_wp2_with fail
    refine (rcopy_c p cp l _ HP.out (by omega)).mono ?_
    rintro e w1 ⟨v, rfl, hown, hb1⟩
    have HF : Hid (∃ pA cA, v = .slice pA A.length cA ∧ Facts p none pA l [] A w1) := by
      rw [HLA.out] at hown
      obtain ⟨pA, cA, rfl, h8⟩ := own_in8' hown
      exact ⟨pA, cA, rfl, ⟨HP.out.below hb1, HQ.out.below hb1, h8⟩, HT.out.below hb1⟩
    go_wp2_with (at_builtin; refine wpList_append_own_none rfl (.tmp 9) (.tmp 10) 23 rfl w.heap.size 5 j0 1 Tryd.underlying23 hj v l.length (byteCells l) rfl hown rfl ?_)
    have HB2 := Lib.hid hb1
    clear hb1 hown
    obtain ⟨pA, cA, rfl, F2⟩ := HF.out
    refine (known_c _ F2.2).mono ?_
    rintro e w3 ⟨rfl, hb3⟩
    have F3 := F2.below hb3
    have HB3 := Lib.hid (bnext HB2.out hb3)
    clear F2 hb3
    go_wp2_with fail
    refine (more_c s p cp l w3 hs F3.1.1 F3.2 (by omega)).mono ?_
    rintro e w4 ⟨rfl, rfl⟩
    go_wp2_with fail
    refine (more_c _ none 0 [] w3 HZ.out F3.1.2.1 F3.2 (by simp)).mono ?_
    rintro e w4 ⟨rfl, rfl⟩
    rw [HE.out]
    go_wp2_with fail
    refine (more_c s pA cA A w3 hs F3.1.2.2 F3.2 (by omega)).mono ?_
    rintro e w4 ⟨rfl, rfl⟩
    go_wp2_with fail
    refine (sum_c p cp l w3 F3.1.1 F3.2 (by omega)).mono ?_
    rintro e w4 ⟨rfl, rfl⟩
    go_wp2_with fail
    refine (more_0 p cp l w3 F3.1.1 F3.2 (by omega)).mono ?_
    rintro e w4 ⟨rfl, rfl⟩
    go_wp2_with fail
    go_ret
    exact ⟨rfl, HB3.out⟩
  · go_enter Tryd.func4, Tryd.ntmps4
    go_wp2_with fail
    refine (rcopy_c p cp l _ HP.out (by omega)).mono ?_
    rintro e w1 ⟨v, rfl, hown, hb1⟩
    have q1 := HQ.out.below hb1
    go_wp2_with (at_builtin; refine wpList_append_own _ rfl (.tmp 9) (.tmp 10) 23 rfl w.heap.size 5 j0 (.int .u8 0) 1 1 Tryd.underlying23 hj hy0 hy1 hy2 rfl (by decide) v l.length (byteCells l) rfl hown ad m.length cq (byteCells m) rfl (by rw [byteCells_len]; omega) (src_cells q1) (byteCells_one m) (by unfold maxLen; omega) (by omega) hb1.size ?_; intro v2 w2 hown2 hgrow2 _)
    have HB2 := Lib.hid (hb1.grown hgrow2 hb1.size (fun k hk => (hown.lt k hk).1))
    have HF : Hid (∃ pA cA, v2 = .slice pA A.length cA ∧ Facts p (some ad) pA l m A w2) := by
      rw [HBA.out] at hown2
      obtain ⟨pA, cA, rfl, h8⟩ := own_in8' hown2
      exact ⟨pA, cA, rfl, ⟨HP.out.below HB2.out, HQ.out.below HB2.out, h8⟩, HT.out.below HB2.out⟩
    clear hown hown2 hgrow2 q1 hb1
    obtain ⟨pA, cA, rfl, F2⟩ := HF.out
    refine (known_c _ F2.2).mono ?_
    rintro e w3 ⟨rfl, hb3⟩
    have F3 := F2.below hb3
    have HB3 := Lib.hid (bnext HB2.out hb3)
    clear F2 hb3
    go_wp2_with fail
    refine (more_c s p cp l w3 hs F3.1.1 F3.2 (by omega)).mono ?_
    rintro e w4 ⟨rfl, rfl⟩
    go_wp2_with fail
    refine (more_c _ (some ad) cq m w3 HZ.out F3.1.2.1 F3.2 (by omega)).mono ?_
    rintro e w4 ⟨rfl, rfl⟩
    rw [HE.out]
    go_wp2_with fail
    refine (more_c s pA cA A w3 hs F3.1.2.2 F3.2 (by omega)).mono ?_
    rintro e w4 ⟨rfl, rfl⟩
    go_wp2_with fail
    refine (sum_c p cp l w3 F3.1.1 F3.2 (by omega)).mono ?_
    rintro e w4 ⟨rfl, rfl⟩
    go_wp2_with fail
    refine (more_0 p cp l w3 F3.1.1 F3.2 (by omega)).mono ?_
    rintro e w4 ⟨rfl, rfl⟩
    go_wp2_with fail
    go_ret
    exact ⟨rfl, HB3.out⟩
end Go.Proofs.YtbfhliagkiigpaaDoor.crcB
