/- The five laws in the shape that the cards take. Conditions as in the walks. -/
import Derived.Test.YtbfhliagkiigpaaDoorCrcA
import Derived.Test.YtbfhliagkiigpaaDoorCrcB
import Derived.Test.YtbfhliagkiigpaaDoorCrcC
import Derived.Test.YtbfhliagkiigpaaDoorCrcD
import Derived.Test.YtbfhliagkiigpaaDoorCrcT
import Derived.ChangeShapes
namespace Go.Proofs.YtbfhliagkiigpaaDoor.crcE
open Go.RowKit
open Go.Proofs.YtbfhliagkiigpaaDoor.oct Go.Proofs.YtbfhliagkiigpaaDoor.crc
open Go.Lib (byteCells)

theorem u32_nat {x : Int} (h : (Lit.int .u32 x).wf = true) : ∃ n : Nat, x = n ∧ n < 4294967296 := by
  have h1 : IntKind.u32.min = 0 := rfl
  have h2 : IntKind.u32.max = 4294967295 := rfl
  simp only [Lit.wf, Bool.and_eq_true, decide_eq_true_eq] at h
  exact ⟨x.toNat, by omega, by omega⟩
theorem sums (x : Int) (p : Option Addr) (cp : Nat) (l : List UInt8) (w : World) (hx : (Lit.int .u32 x).wf = true) (hp : In8 w p l) (hl : l.length ≤ 140737488351232) (ht : Tab w) :
    Calls Tryd.prog 3 #[.int .u32 x, .slice p l.length cp] w fun e w' => e = .returned (.bool true) ∧ Below w.heap.size w w' := by
  obtain ⟨s, rfl, hs⟩ := u32_nat hx
  exact crcA.sums s p cp l w hs hp (by omega) ht
theorem parts (x : Int) (p : Option Addr) (cp : Nat) (l : List UInt8) (q : Option Addr) (cq : Nat) (m : List UInt8) (w : World) (hx : (Lit.int .u32 x).wf = true) (hp : In8 w p l) (hl : l.length ≤ 1048576) (hq : In8 w q m) (hm : m.length ≤ 1048576) (hnil : q = none → cq = 0) (ht : Tab w) :
    Calls Tryd.prog 4 #[.int .u32 x, .slice p l.length cp, .slice q m.length cq] w fun e w' => e = .returned (.bool true) ∧ Below w.heap.size w w' := by
  obtain ⟨s, rfl, hs⟩ := u32_nat hx
  exact crcB.parts s p cp l q cq m w hs hp hq (by omega) hnil ht
theorem together (p : Option Addr) (cp : Nat) (l : List UInt8) (q : Option Addr) (cq : Nat) (m : List UInt8) (r : Option Addr) (cr : Nat) (n : List UInt8) (w : World)
    (hp : In8 w p l) (hl : l.length ≤ 140737488351232) (hlc : l.length ≤ cp) (hq : In8 w q m) (hm : m.length ≤ 140737488351232) (hmc : m.length ≤ cq) (hr : In8 w r n) (hn : n.length ≤ 140737488351232) (hnc : n.length ≤ cr) (ht : Tab w) :
    Calls Tryd.prog 6 #[.slice p l.length cp, .slice q m.length cq, .slice r n.length cr] w fun e w' => e = .returned (.bool true) ∧ Below w.heap.size w w' :=
  crcC.together p cp l q cq m r cr n w hp (by omega) hlc hq (by omega) hmc hr (by omega) hnc ht
theorem bursts (p : Option Addr) (cp : Nat) (l : List UInt8) (a : Int) (t : List UInt8) (w : World) (hp : In8 w p l) (hl : l.length ≤ 140737488351232) (_ha : (Lit.int .i64 a).wf = true) (h4 : t.length = 4) (ht : Tab w) :
    Calls Tryd.prog 5 #[.slice p l.length cp, .int .i64 a, .agg (byteCells t).toArray] w fun e w' => e = .returned (.bool true) ∧ Below w.heap.size w w' :=
  crcD.bursts4 p cp l a t w hp (by omega) h4 ht
theorem keeps (p : Option Addr) (cp : Nat) (l : List UInt8) (w : World) (hp : In8 w p l) (hl : l.length ≤ 140737488351232) (ht : Tab w) :
    Calls Tryd.prog 7 #[.slice p l.length cp] w fun e w' => e = .returned (.bool true) ∧ Below w.heap.size w w' :=
  crcA.keeps p cp l w hp hl ht
end Go.Proofs.YtbfhliagkiigpaaDoor.crcE
