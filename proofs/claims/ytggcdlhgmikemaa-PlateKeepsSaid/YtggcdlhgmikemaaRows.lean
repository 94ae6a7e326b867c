/-
  No cell of these rows narrows 'for every input' (looked for: loops, veiled, ifaces, maps, wideKeys, modest, calm, conditions, laid).
  DERIVED. THE GIVEN ROWS OF THIS SEAT. 6 by the template 'for every input the law returns true; each argument reads behind the call as it read before'; 0 by the template 'total and deterministic' (their statements: YtggcdlhgmikemaaTotals.lean).
  GIVEN WITH THE SEED: the statements are not yours to turn. If you find one false, say at which input.
  Laid BY PROGRAM, IN A SANDBOX (cutbox-rows.mjs): the forced cells as the released guide's own fill.sh prints them over the translation 187089b3f13161c3… (all of the seat's roots in one cut). By AI agents, Wed Nov 11 2026. No macro, syntax, notation, axiom, sorry.
-/
import Derived.Test.YtggcdlhgmikemaaChecked
import GoSem.Claim
import GoSem.ClaimJoined
import GoSem.ClaimMapViews
import Derived.JoinedTies
import Derived.KernelRfl
namespace Go.Proofs.Ytggcdlhgmikemaa
/- THE CELL 'sum', in the pinned program and in every row, IS THE sha256 OF THE DUMP (.gsa) THAT YtggcdlhgmikemaaProg.lean LOADS. Nothing in Lean hashes anything: it is a label: what it is worth is what the hold of that sum in a sandbox is worth. -/
noncomputable def Try.pinned : Pinned := { name := "ytggcdlhgmikemaa", sum := "187089b3f13161c352b29efadbfd3f7644c2807cf781316aef1b1110a0b6b329", checked := Try.checked }
namespace Rows
def none {H : Type} : Left H := { results := [], args := [] }

/-- 'signetlaw10.PlatePlays': WHATEVER THE INPUT: true; the input reads as it did. -/
def platePlaysSpec : ChangeSpec := { name := "platePlays", fn := fun _ => fun
  | [d1, d2] => { results := [.lit (.bool true)], args := [d1, d2] }
  | _ => none }
def platePlaysRow : OpenClaim := { program := "ytggcdlhgmikemaa", sum := "187089b3f13161c352b29efadbfd3f7644c2807cf781316aef1b1110a0b6b329", func := "signet/signetlaw10.PlatePlays", spec := "platePlays", recurses := true, apart := false }
def PlatePlaysSaid : Prop := platePlaysRow.holds Try.pinned (OpenSpec.ofChange platePlaysSpec)

/-- ITS FALSE NEIGHBOUR: 'it returns false'. Refute it at one input. -/
def platePlaysWrong : ChangeSpec := { name := "platePlays", fn := fun _ => fun
  | [d1, d2] => { results := [.lit (.bool false)], args := [d1, d2] }
  | _ => none }
def PlatePlaysWrongFalsely : Prop := platePlaysRow.holds Try.pinned (OpenSpec.ofChange platePlaysWrong)

/-- 'signetlaw10.PlateCrashes': WHATEVER THE INPUT: true; the input reads as it did. -/
def plateCrashesSpec : ChangeSpec := { name := "plateCrashes", fn := fun _ => fun
  | [d1, d2] => { results := [.lit (.bool true)], args := [d1, d2] }
  | _ => none }
def plateCrashesRow : OpenClaim := { program := "ytggcdlhgmikemaa", sum := "187089b3f13161c352b29efadbfd3f7644c2807cf781316aef1b1110a0b6b329", func := "signet/signetlaw10.PlateCrashes", spec := "plateCrashes", recurses := true, apart := false }
def PlateCrashesSaid : Prop := plateCrashesRow.holds Try.pinned (OpenSpec.ofChange plateCrashesSpec)

/-- ITS FALSE NEIGHBOUR: 'it returns false'. Refute it at one input. -/
def plateCrashesWrong : ChangeSpec := { name := "plateCrashes", fn := fun _ => fun
  | [d1, d2] => { results := [.lit (.bool false)], args := [d1, d2] }
  | _ => none }
def PlateCrashesWrongFalsely : Prop := plateCrashesRow.holds Try.pinned (OpenSpec.ofChange plateCrashesWrong)

/-- 'signetlaw10.PlateArmed': WHATEVER THE INPUT: true; the input reads as it did. -/
def plateArmedSpec : ChangeSpec := { name := "plateArmed", fn := fun _ => fun
  | [d1, d2] => { results := [.lit (.bool true)], args := [d1, d2] }
  | _ => none }
def plateArmedRow : OpenClaim := { program := "ytggcdlhgmikemaa", sum := "187089b3f13161c352b29efadbfd3f7644c2807cf781316aef1b1110a0b6b329", func := "signet/signetlaw10.PlateArmed", spec := "plateArmed", recurses := true, apart := false }
def PlateArmedSaid : Prop := plateArmedRow.holds Try.pinned (OpenSpec.ofChange plateArmedSpec)

/-- ITS FALSE NEIGHBOUR: 'it returns false'. Refute it at one input. -/
def plateArmedWrong : ChangeSpec := { name := "plateArmed", fn := fun _ => fun
  | [d1, d2] => { results := [.lit (.bool false)], args := [d1, d2] }
  | _ => none }
def PlateArmedWrongFalsely : Prop := plateArmedRow.holds Try.pinned (OpenSpec.ofChange plateArmedWrong)

/-- 'signetlaw10.PlateFull': WHATEVER THE INPUT: true; the input reads as it did. -/
def plateFullSpec : ChangeSpec := { name := "plateFull", fn := fun _ => fun
  | [d1, d2] => { results := [.lit (.bool true)], args := [d1, d2] }
  | _ => none }
def plateFullRow : OpenClaim := { program := "ytggcdlhgmikemaa", sum := "187089b3f13161c352b29efadbfd3f7644c2807cf781316aef1b1110a0b6b329", func := "signet/signetlaw10.PlateFull", spec := "plateFull", recurses := true, apart := false }
def PlateFullSaid : Prop := plateFullRow.holds Try.pinned (OpenSpec.ofChange plateFullSpec)

/-- ITS FALSE NEIGHBOUR: 'it returns false'. Refute it at one input. -/
def plateFullWrong : ChangeSpec := { name := "plateFull", fn := fun _ => fun
  | [d1, d2] => { results := [.lit (.bool false)], args := [d1, d2] }
  | _ => none }
def PlateFullWrongFalsely : Prop := plateFullRow.holds Try.pinned (OpenSpec.ofChange plateFullWrong)

/-- 'signetlaw10.PlateKeeps': WHATEVER THE INPUT: true; the input reads as it did. -/
def plateKeepsSpec : ChangeSpec := { name := "plateKeeps", fn := fun _ => fun
  | [d1, d2, d3] => { results := [.lit (.bool true)], args := [d1, d2, d3] }
  | _ => none }
def plateKeepsRow : OpenClaim := { program := "ytggcdlhgmikemaa", sum := "187089b3f13161c352b29efadbfd3f7644c2807cf781316aef1b1110a0b6b329", func := "signet/signetlaw10.PlateKeeps", spec := "plateKeeps", recurses := true, apart := false }
def PlateKeepsSaid : Prop := plateKeepsRow.holds Try.pinned (OpenSpec.ofChange plateKeepsSpec)

/-- ITS FALSE NEIGHBOUR: 'it returns false'. Refute it at one input. -/
def plateKeepsWrong : ChangeSpec := { name := "plateKeeps", fn := fun _ => fun
  | [d1, d2, d3] => { results := [.lit (.bool false)], args := [d1, d2, d3] }
  | _ => none }
def PlateKeepsWrongFalsely : Prop := plateKeepsRow.holds Try.pinned (OpenSpec.ofChange plateKeepsWrong)

/-- 'signetlaw10.PlateNil': WHATEVER THE INPUT: true; the input reads as it did. -/
def plateNilSpec : ChangeSpec := { name := "plateNil", fn := fun _ => fun
  | [d] => { results := [.lit (.bool true)], args := [d] }
  | _ => none }
def plateNilRow : OpenClaim := { program := "ytggcdlhgmikemaa", sum := "187089b3f13161c352b29efadbfd3f7644c2807cf781316aef1b1110a0b6b329", func := "signet/signetlaw10.PlateNil", spec := "plateNil", recurses := true, apart := false }
def PlateNilSaid : Prop := plateNilRow.holds Try.pinned (OpenSpec.ofChange plateNilSpec)

/-- ITS FALSE NEIGHBOUR: 'it returns false'. Refute it at one input. -/
def plateNilWrong : ChangeSpec := { name := "plateNil", fn := fun _ => fun
  | [d] => { results := [.lit (.bool false)], args := [d] }
  | _ => none }
def PlateNilWrongFalsely : Prop := plateNilRow.holds Try.pinned (OpenSpec.ofChange plateNilWrong)

/- THE SECOND FORM. 'bulk': how many values and letters a reading holds, each counted each time it is reached (what is shared counts as often as it is met; a slice's spare places count too). A statement '..UptoSaid' is the law's where the arguments, and the package variables that the reading takes, are together of bulk at most 1048576: NARROWER than '..Said'. Prove '..Said' where nothing that the law and all that it calls make is longer than what came in: it says more and counts as full. Else prove '..UptoSaid'. A law counts once. -/
mutual
def uptoBulk {H : Type} : DataW H → Nat
  | .lit (.string bytes) => bytes.length + 1
  | .lit _ => 1
  | .nil => 1
  | .ptr d => uptoBulk d + 1
  | .slice elems spare => uptoBulkAll elems + uptoBulkAll spare + 1
  | .agg parts => uptoBulkAll parts + 1
  | .iface _ d => uptoBulk d + 1
  | .map entries => uptoBulkEntries entries + 1
  | .held _ => 1
def uptoBulkAll {H : Type} : List (DataW H) → Nat
  | [] => 0
  | d :: r => uptoBulk d + uptoBulkAll r
def uptoBulkEntries {H : Type} : List (Lit × DataW H) → Nat
  | [] => 0
  | x :: r => uptoBulkEntry x + uptoBulkEntries r
def uptoBulkEntry {H : Type} : Lit × DataW H → Nat
  | (.string bytes, d) => bytes.length + uptoBulk d + 1
  | (_, d) => uptoBulk d + 1
 end
def uptoSmall : (H : Type) → List (DataW H) → Bool := fun _ ds => decide (uptoBulkAll ds ≤ 1048576)
def OpenSpec.upto (s : _root_.Go.ChangeSpec) : _root_.Go.OpenSpec := { _root_.Go.OpenSpec.ofChange s with cond := some uptoSmall }

/-- 'signetlaw10.PlatePlays', WHERE WHAT IT READS IS OF BULK AT MOST 1048576: true; the input reads as it did. -/
def platePlaysUptoRow : OpenClaim := { program := "ytggcdlhgmikemaa", sum := "187089b3f13161c352b29efadbfd3f7644c2807cf781316aef1b1110a0b6b329", func := "signet/signetlaw10.PlatePlays", spec := "platePlays", recurses := true, apart := false, narrowed := true }
def PlatePlaysUptoSaid : Prop := platePlaysUptoRow.holds Try.pinned (OpenSpec.upto platePlaysSpec)

/-- 'signetlaw10.PlateCrashes', WHERE WHAT IT READS IS OF BULK AT MOST 1048576: true; the input reads as it did. -/
def plateCrashesUptoRow : OpenClaim := { program := "ytggcdlhgmikemaa", sum := "187089b3f13161c352b29efadbfd3f7644c2807cf781316aef1b1110a0b6b329", func := "signet/signetlaw10.PlateCrashes", spec := "plateCrashes", recurses := true, apart := false, narrowed := true }
def PlateCrashesUptoSaid : Prop := plateCrashesUptoRow.holds Try.pinned (OpenSpec.upto plateCrashesSpec)

/-- 'signetlaw10.PlateArmed', WHERE WHAT IT READS IS OF BULK AT MOST 1048576: true; the input reads as it did. -/
def plateArmedUptoRow : OpenClaim := { program := "ytggcdlhgmikemaa", sum := "187089b3f13161c352b29efadbfd3f7644c2807cf781316aef1b1110a0b6b329", func := "signet/signetlaw10.PlateArmed", spec := "plateArmed", recurses := true, apart := false, narrowed := true }
def PlateArmedUptoSaid : Prop := plateArmedUptoRow.holds Try.pinned (OpenSpec.upto plateArmedSpec)

/-- 'signetlaw10.PlateFull', WHERE WHAT IT READS IS OF BULK AT MOST 1048576: true; the input reads as it did. -/
def plateFullUptoRow : OpenClaim := { program := "ytggcdlhgmikemaa", sum := "187089b3f13161c352b29efadbfd3f7644c2807cf781316aef1b1110a0b6b329", func := "signet/signetlaw10.PlateFull", spec := "plateFull", recurses := true, apart := false, narrowed := true }
def PlateFullUptoSaid : Prop := plateFullUptoRow.holds Try.pinned (OpenSpec.upto plateFullSpec)

/-- 'signetlaw10.PlateKeeps', WHERE WHAT IT READS IS OF BULK AT MOST 1048576: true; the input reads as it did. -/
def plateKeepsUptoRow : OpenClaim := { program := "ytggcdlhgmikemaa", sum := "187089b3f13161c352b29efadbfd3f7644c2807cf781316aef1b1110a0b6b329", func := "signet/signetlaw10.PlateKeeps", spec := "plateKeeps", recurses := true, apart := false, narrowed := true }
def PlateKeepsUptoSaid : Prop := plateKeepsUptoRow.holds Try.pinned (OpenSpec.upto plateKeepsSpec)

/-- 'signetlaw10.PlateNil', WHERE WHAT IT READS IS OF BULK AT MOST 1048576: true; the input reads as it did. -/
def plateNilUptoRow : OpenClaim := { program := "ytggcdlhgmikemaa", sum := "187089b3f13161c352b29efadbfd3f7644c2807cf781316aef1b1110a0b6b329", func := "signet/signetlaw10.PlateNil", spec := "plateNil", recurses := true, apart := false, narrowed := true }
def PlateNilUptoSaid : Prop := plateNilUptoRow.holds Try.pinned (OpenSpec.upto plateNilSpec)

end Rows
end Go.Proofs.Ytggcdlhgmikemaa
