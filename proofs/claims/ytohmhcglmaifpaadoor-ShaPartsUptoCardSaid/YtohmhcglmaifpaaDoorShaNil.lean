/- ShaNil: the walk of the law, by what the program's calls answer of a nil hash and of no bytes. -/
import Derived.Test.YtohmhcglmaifpaaDoorMem
namespace Go.Proofs.YtohmhcglmaifpaaDoor.sha
open Go.RowKit
open Go.Proofs.YtohmhcglmaifpaaDoor.oct

set_option maxHeartbeats 1000000 in
theorem law_nil {T : World → Prop} {A : Array Value} (tb : ∀ w w', T w → Below w.heap.size w w' → T w')
    (kn : ∀ w, T w → Calls Tryd.prog 11 #[] w fun e w' => e = .returned (.bool true) ∧ Below w.heap.size w w')
    (kE : ∀ w, (binOp .eql 26 (.agg A) (.agg A)).run Tryd.prog w = .ok (.bool true) w)
    (wr : ∀ p cp l w, T w → In8 w p l → Calls Tryd.prog 19 #[.pointer none, .slice p l.length cp] w fun e w' => (∃ v, e = .returned v) ∧ Below w.heap.size w w')
    (le : ∀ w, T w → Calls Tryd.prog 20 #[.pointer none] w fun e w' => e = .returned (.int .i64 0) ∧ Below w.heap.size w w')
    (to : ∀ w, T w → Calls Tryd.prog 21 #[.pointer none] w fun e w' => e = .returned (.agg A) ∧ Below w.heap.size w w')
    (su : ∀ w, T w → Calls Tryd.prog 13 #[.slice none 0 0] w fun e w' => e = .returned (.agg A) ∧ Below w.heap.size w w')
    (al : ∀ w, T w → Calls Tryd.prog 22 #[.slice none 0 0] w fun e w' => e = .returned (.agg A) ∧ Below w.heap.size w w')
    (p : Option Addr) (cp : Nat) (l : List UInt8) (w : World) (hp : In8 w p l) (ht : T w) :
    Calls Tryd.prog 9 #[.slice p l.length cp] w fun e w' => e = .returned (.bool true) ∧ Below w.heap.size w w' := by
  have HP := Lib.hid hp
  have HT := Lib.hid ht
  have TB := Lib.hid tb
  have KN := Lib.hid kn
  have WR := Lib.hid wr
  have LE := Lib.hid le
  have TO := Lib.hid to
  have SU := Lib.hid su
  have AL := Lib.hid al
  clear hp ht tb kn wr le to su al
  go_enter Tryd.func9, Tryd.ntmps9
  go_wp2_with fail
  refine (WR.out p cp l w HT.out HP.out).mono ?_
  rintro e w1 ⟨⟨v, rfl⟩, hb1⟩
  go_wp2_with fail
  refine (KN.out w1 (TB.out _ _ HT.out hb1)).mono ?_
  rintro e w2 ⟨rfl, hb2⟩
  have hbw2 := bnext hb1 hb2
  clear hb1 hb2
  go_wp2_with fail
  refine (LE.out w2 (TB.out _ _ HT.out hbw2)).mono ?_
  rintro e w3 ⟨rfl, hb3⟩
  have hbw3 := bnext hbw2 hb3
  clear hbw2 hb3
  go_wp2_with fail
  refine (TO.out w3 (TB.out _ _ HT.out hbw3)).mono ?_
  rintro e w4 ⟨rfl, hb4⟩
  have hbw4 := bnext hbw3 hb4
  clear hbw3 hb4
  go_wp2_with fail
  refine (SU.out w4 (TB.out _ _ HT.out hbw4)).mono ?_
  rintro e w5 ⟨rfl, hb5⟩
  have hbw5 := bnext hbw4 hb5
  clear hbw4 hb5
  go_wp2_with fail
  refine (AL.out w5 (TB.out _ _ HT.out hbw5)).mono ?_
  rintro e w6 ⟨rfl, hb6⟩
  have hbw6 := bnext hbw5 hb6
  clear hbw5 hb6
  go_wp2_with fail
  refine (SU.out w6 (TB.out _ _ HT.out hbw6)).mono ?_
  rintro e w7 ⟨rfl, hb7⟩
  have hbw7 := bnext hbw6 hb7
  clear hbw6 hb7
  go_wp2_with fail
  go_ret
  exact ⟨rfl, hbw7⟩
end Go.Proofs.YtohmhcglmaifpaaDoor.sha
