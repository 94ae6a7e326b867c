/-
  NARROWER THAN 'FOR EVERY INPUT', by the rows' own cells (each row's printed sentence says how): WireWrites: laid · WireReads: laid · WireInner: laid · WireBack: laid · WireSpoilt: laid · WireStays: laid · WireNil: laid · WireKeeps: laid.
  DERIVED. THE GIVEN ROWS OF THIS SEAT. 8 by the template 'for every input the law returns true; each argument reads behind the call as it read before'; 0 by the template 'total and deterministic' (their statements: YtpffebcaalbhjaaDoorTotals.lean).
  GIVEN WITH THE SEED: the statements are not yours to turn. If you find one false, say at which input.
  Laid BY PROGRAM, IN A SANDBOX (cutbox-rows.mjs): the forced cells as the released guide's own fill.sh prints them over the translation 41897b1fb59a5b15… (all of the seat's roots in one cut). By AI agents, Wed Nov 11 2026. No macro, syntax, notation, axiom, sorry.
-/
import Derived.Test.YtpffebcaalbhjaaDoorChecked
import GoSem.Claim
import GoSem.ClaimJoined
import GoSem.ClaimMapViews
import Derived.JoinedTies
import Derived.KernelRfl
namespace Go.Proofs.YtpffebcaalbhjaaDoor
/- THE CELL 'sum', in the pinned program and in every row, IS THE sha256 OF THE DUMP (.gsa) THAT YtpffebcaalbhjaaDoorProg.lean LOADS. Nothing in Lean hashes anything: it is a label: what it is worth is what the hold of that sum in a sandbox is worth. -/
noncomputable def Tryd.pinned : Pinned := { name := "ytpffebcaalbhjaadoor", sum := "41897b1fb59a5b15e8849babf1189c684ac9be5ce838ff93751b8648efa65af8", checked := Tryd.checked }
namespace Rows
def none {H : Type} : Left H := { results := [], args := [] }

/- WHAT THE LISTED PACKAGE-LEVEL VARIABLES READ AS WHEN THE CALL BEGINS. Each datum BY PROGRAM (the guide's laid-datum.mjs) off the statement by which the dump's own 'gosem.cut.vars' lays the variable. In a bare row this is a premise. The card (YtpffebcaalbhjaaDoorCards.lean) ties it to the program's text. -/
def laid_signet_crc_steps {H : Type} : DataW H := .agg [.lit (.int .u32 0), .lit (.int .u32 274646895), .lit (.int .u32 549293790), .lit (.int .u32 820201905), .lit (.int .u32 1098587580), .lit (.int .u32 1361435347), .lit (.int .u32 1640403810), .lit (.int .u32 1905808397), .lit (.int .u32 2197175160), .lit (.int .u32 2460548119), .lit (.int .u32 2722870694), .lit (.int .u32 2987750089), .lit (.int .u32 3280807620), .lit (.int .u32 3553878443), .lit (.int .u32 3811616794), .lit (.int .u32 4084100981)]

/-- 'signetlaw08.WireWrites': WHATEVER THE INPUT: true; the input reads as it did. -/
def wireWritesSpec : ChangeSpec := { name := "wireWrites", fn := fun _ => fun
  | [d] => { results := [.lit (.bool true)], args := [d] }
  | _ => none }
def wireWritesRow : OpenClaim := { program := "ytpffebcaalbhjaadoor", sum := "41897b1fb59a5b15e8849babf1189c684ac9be5ce838ff93751b8648efa65af8", func := "signet/signetlaw08.WireWrites", spec := "wireWrites", named := ["signet/crc.steps"], apart := false, laid := [("signet/crc.steps", laid_signet_crc_steps)] }
def WireWritesSaid : Prop := wireWritesRow.holds Tryd.pinned (OpenSpec.ofChange wireWritesSpec)

/-- ITS FALSE NEIGHBOUR: 'it returns false'. Refute it at one input. -/
def wireWritesWrong : ChangeSpec := { name := "wireWrites", fn := fun _ => fun
  | [d] => { results := [.lit (.bool false)], args := [d] }
  | _ => none }
def WireWritesWrongFalsely : Prop := wireWritesRow.holds Tryd.pinned (OpenSpec.ofChange wireWritesWrong)

/-- 'signetlaw08.WireReads': WHATEVER THE INPUT: true; the input reads as it did. -/
def wireReadsSpec : ChangeSpec := { name := "wireReads", fn := fun _ => fun
  | [d1, d2] => { results := [.lit (.bool true)], args := [d1, d2] }
  | _ => none }
def wireReadsRow : OpenClaim := { program := "ytpffebcaalbhjaadoor", sum := "41897b1fb59a5b15e8849babf1189c684ac9be5ce838ff93751b8648efa65af8", func := "signet/signetlaw08.WireReads", spec := "wireReads", named := ["signet/crc.steps"], apart := false, laid := [("signet/crc.steps", laid_signet_crc_steps)] }
def WireReadsSaid : Prop := wireReadsRow.holds Tryd.pinned (OpenSpec.ofChange wireReadsSpec)

/-- ITS FALSE NEIGHBOUR: 'it returns false'. Refute it at one input. -/
def wireReadsWrong : ChangeSpec := { name := "wireReads", fn := fun _ => fun
  | [d1, d2] => { results := [.lit (.bool false)], args := [d1, d2] }
  | _ => none }
def WireReadsWrongFalsely : Prop := wireReadsRow.holds Tryd.pinned (OpenSpec.ofChange wireReadsWrong)

/-- 'signetlaw08.WireInner': WHATEVER THE INPUT: true; the input reads as it did. -/
def wireInnerSpec : ChangeSpec := { name := "wireInner", fn := fun _ => fun
  | [d1, d2] => { results := [.lit (.bool true)], args := [d1, d2] }
  | _ => none }
def wireInnerRow : OpenClaim := { program := "ytpffebcaalbhjaadoor", sum := "41897b1fb59a5b15e8849babf1189c684ac9be5ce838ff93751b8648efa65af8", func := "signet/signetlaw08.WireInner", spec := "wireInner", named := ["signet/crc.steps"], apart := false, laid := [("signet/crc.steps", laid_signet_crc_steps)] }
def WireInnerSaid : Prop := wireInnerRow.holds Tryd.pinned (OpenSpec.ofChange wireInnerSpec)

/-- ITS FALSE NEIGHBOUR: 'it returns false'. Refute it at one input. -/
def wireInnerWrong : ChangeSpec := { name := "wireInner", fn := fun _ => fun
  | [d1, d2] => { results := [.lit (.bool false)], args := [d1, d2] }
  | _ => none }
def WireInnerWrongFalsely : Prop := wireInnerRow.holds Tryd.pinned (OpenSpec.ofChange wireInnerWrong)

/-- 'signetlaw08.WireBack': WHATEVER THE INPUT: true; the input reads as it did. -/
def wireBackSpec : ChangeSpec := { name := "wireBack", fn := fun _ => fun
  | [d] => { results := [.lit (.bool true)], args := [d] }
  | _ => none }
def wireBackRow : OpenClaim := { program := "ytpffebcaalbhjaadoor", sum := "41897b1fb59a5b15e8849babf1189c684ac9be5ce838ff93751b8648efa65af8", func := "signet/signetlaw08.WireBack", spec := "wireBack", named := ["signet/crc.steps"], apart := false, laid := [("signet/crc.steps", laid_signet_crc_steps)] }
def WireBackSaid : Prop := wireBackRow.holds Tryd.pinned (OpenSpec.ofChange wireBackSpec)

/-- ITS FALSE NEIGHBOUR: 'it returns false'. Refute it at one input. -/
def wireBackWrong : ChangeSpec := { name := "wireBack", fn := fun _ => fun
  | [d] => { results := [.lit (.bool false)], args := [d] }
  | _ => none }
def WireBackWrongFalsely : Prop := wireBackRow.holds Tryd.pinned (OpenSpec.ofChange wireBackWrong)

/-- 'signetlaw08.WireSpoilt': WHATEVER THE INPUT: true; the input reads as it did. -/
def wireSpoiltSpec : ChangeSpec := { name := "wireSpoilt", fn := fun _ => fun
  | [d1, d2] => { results := [.lit (.bool true)], args := [d1, d2] }
  | _ => none }
def wireSpoiltRow : OpenClaim := { program := "ytpffebcaalbhjaadoor", sum := "41897b1fb59a5b15e8849babf1189c684ac9be5ce838ff93751b8648efa65af8", func := "signet/signetlaw08.WireSpoilt", spec := "wireSpoilt", named := ["signet/crc.steps"], apart := false, laid := [("signet/crc.steps", laid_signet_crc_steps)] }
def WireSpoiltSaid : Prop := wireSpoiltRow.holds Tryd.pinned (OpenSpec.ofChange wireSpoiltSpec)

/-- ITS FALSE NEIGHBOUR: 'it returns false'. Refute it at one input. -/
def wireSpoiltWrong : ChangeSpec := { name := "wireSpoilt", fn := fun _ => fun
  | [d1, d2] => { results := [.lit (.bool false)], args := [d1, d2] }
  | _ => none }
def WireSpoiltWrongFalsely : Prop := wireSpoiltRow.holds Tryd.pinned (OpenSpec.ofChange wireSpoiltWrong)

/-- 'signetlaw08.WireStays': WHATEVER THE INPUT: true; the input reads as it did. -/
def wireStaysSpec : ChangeSpec := { name := "wireStays", fn := fun _ => fun
  | [d1, d2, d3] => { results := [.lit (.bool true)], args := [d1, d2, d3] }
  | _ => none }
def wireStaysRow : OpenClaim := { program := "ytpffebcaalbhjaadoor", sum := "41897b1fb59a5b15e8849babf1189c684ac9be5ce838ff93751b8648efa65af8", func := "signet/signetlaw08.WireStays", spec := "wireStays", named := ["signet/crc.steps"], apart := false, laid := [("signet/crc.steps", laid_signet_crc_steps)] }
def WireStaysSaid : Prop := wireStaysRow.holds Tryd.pinned (OpenSpec.ofChange wireStaysSpec)

/-- ITS FALSE NEIGHBOUR: 'it returns false'. Refute it at one input. -/
def wireStaysWrong : ChangeSpec := { name := "wireStays", fn := fun _ => fun
  | [d1, d2, d3] => { results := [.lit (.bool false)], args := [d1, d2, d3] }
  | _ => none }
def WireStaysWrongFalsely : Prop := wireStaysRow.holds Tryd.pinned (OpenSpec.ofChange wireStaysWrong)

/-- 'signetlaw08.WireNil': WHATEVER THE INPUT: true; the input reads as it did. -/
def wireNilSpec : ChangeSpec := { name := "wireNil", fn := fun _ => fun
  | [d] => { results := [.lit (.bool true)], args := [d] }
  | _ => none }
def wireNilRow : OpenClaim := { program := "ytpffebcaalbhjaadoor", sum := "41897b1fb59a5b15e8849babf1189c684ac9be5ce838ff93751b8648efa65af8", func := "signet/signetlaw08.WireNil", spec := "wireNil", named := ["signet/crc.steps"], apart := false, laid := [("signet/crc.steps", laid_signet_crc_steps)] }
def WireNilSaid : Prop := wireNilRow.holds Tryd.pinned (OpenSpec.ofChange wireNilSpec)

/-- ITS FALSE NEIGHBOUR: 'it returns false'. Refute it at one input. -/
def wireNilWrong : ChangeSpec := { name := "wireNil", fn := fun _ => fun
  | [d] => { results := [.lit (.bool false)], args := [d] }
  | _ => none }
def WireNilWrongFalsely : Prop := wireNilRow.holds Tryd.pinned (OpenSpec.ofChange wireNilWrong)

/-- 'signetlaw08.WireKeeps': WHATEVER THE INPUT: true; the input reads as it did. -/
def wireKeepsSpec : ChangeSpec := { name := "wireKeeps", fn := fun _ => fun
  | [d] => { results := [.lit (.bool true)], args := [d] }
  | _ => none }
def wireKeepsRow : OpenClaim := { program := "ytpffebcaalbhjaadoor", sum := "41897b1fb59a5b15e8849babf1189c684ac9be5ce838ff93751b8648efa65af8", func := "signet/signetlaw08.WireKeeps", spec := "wireKeeps", named := ["signet/crc.steps"], apart := false, laid := [("signet/crc.steps", laid_signet_crc_steps)] }
def WireKeepsSaid : Prop := wireKeepsRow.holds Tryd.pinned (OpenSpec.ofChange wireKeepsSpec)

/-- ITS FALSE NEIGHBOUR: 'it returns false'. Refute it at one input. -/
def wireKeepsWrong : ChangeSpec := { name := "wireKeeps", fn := fun _ => fun
  | [d] => { results := [.lit (.bool false)], args := [d] }
  | _ => none }
def WireKeepsWrongFalsely : Prop := wireKeepsRow.holds Tryd.pinned (OpenSpec.ofChange wireKeepsWrong)

/- THE SECOND FORM. 'bulk': how many values and letters a reading holds, each counted each time it is reached (what is shared counts as often as it is met; a slice's spare places count too). A statement '..UptoSaid' is the law's where the arguments, and the package variables that the reading takes, are together of bulk at most 1048576: NARROWER than '..Said'. Prove '..Said' where nothing that the law and all that it calls make is longer than what came in: it says more and counts as full. Else prove '..UptoSaid'. A law counts once. -/
mutual
def uptoBulk {H : Type} : DataW H → Nat
  | .lit (.string bytes) => bytes.length + 1
  | .lit _ => 1
  | .nil => 1
  | .ptr d => uptoBulk d + 1
  | .slice elems spare => uptoBulkAll elems + uptoBulkAll spare + 1
  | .agg parts => uptoBulkAll parts + 1
  | .iface _ d => uptoBulk d + 1
  | .map entries => uptoBulkEntries entries + 1
  | .held _ => 1
def uptoBulkAll {H : Type} : List (DataW H) → Nat
  | [] => 0
  | d :: r => uptoBulk d + uptoBulkAll r
def uptoBulkEntries {H : Type} : List (Lit × DataW H) → Nat
  | [] => 0
  | x :: r => uptoBulkEntry x + uptoBulkEntries r
def uptoBulkEntry {H : Type} : Lit × DataW H → Nat
  | (.string bytes, d) => bytes.length + uptoBulk d + 1
  | (_, d) => uptoBulk d + 1
 end
def uptoSmall : (H : Type) → List (DataW H) → Bool := fun _ ds => decide (uptoBulkAll ds ≤ 1048576)
def OpenSpec.upto (s : _root_.Go.ChangeSpec) : _root_.Go.OpenSpec := { _root_.Go.OpenSpec.ofChange s with cond := some uptoSmall }

/-- 'signetlaw08.WireWrites', WHERE WHAT IT READS IS OF BULK AT MOST 1048576: true; the input reads as it did. -/
def wireWritesUptoRow : OpenClaim := { program := "ytpffebcaalbhjaadoor", sum := "41897b1fb59a5b15e8849babf1189c684ac9be5ce838ff93751b8648efa65af8", func := "signet/signetlaw08.WireWrites", spec := "wireWrites", named := ["signet/crc.steps"], apart := false, laid := [("signet/crc.steps", laid_signet_crc_steps)], narrowed := true }
def WireWritesUptoSaid : Prop := wireWritesUptoRow.holds Tryd.pinned (OpenSpec.upto wireWritesSpec)

/-- 'signetlaw08.WireReads', WHERE WHAT IT READS IS OF BULK AT MOST 1048576: true; the input reads as it did. -/
def wireReadsUptoRow : OpenClaim := { program := "ytpffebcaalbhjaadoor", sum := "41897b1fb59a5b15e8849babf1189c684ac9be5ce838ff93751b8648efa65af8", func := "signet/signetlaw08.WireReads", spec := "wireReads", named := ["signet/crc.steps"], apart := false, laid := [("signet/crc.steps", laid_signet_crc_steps)], narrowed := true }
def WireReadsUptoSaid : Prop := wireReadsUptoRow.holds Tryd.pinned (OpenSpec.upto wireReadsSpec)

/-- 'signetlaw08.WireInner', WHERE WHAT IT READS IS OF BULK AT MOST 1048576: true; the input reads as it did. -/
def wireInnerUptoRow : OpenClaim := { program := "ytpffebcaalbhjaadoor", sum := "41897b1fb59a5b15e8849babf1189c684ac9be5ce838ff93751b8648efa65af8", func := "signet/signetlaw08.WireInner", spec := "wireInner", named := ["signet/crc.steps"], apart := false, laid := [("signet/crc.steps", laid_signet_crc_steps)], narrowed := true }
def WireInnerUptoSaid : Prop := wireInnerUptoRow.holds Tryd.pinned (OpenSpec.upto wireInnerSpec)

/-- 'signetlaw08.WireBack', WHERE WHAT IT READS IS OF BULK AT MOST 1048576: true; the input reads as it did. -/
def wireBackUptoRow : OpenClaim := { program := "ytpffebcaalbhjaadoor", sum := "41897b1fb59a5b15e8849babf1189c684ac9be5ce838ff93751b8648efa65af8", func := "signet/signetlaw08.WireBack", spec := "wireBack", named := ["signet/crc.steps"], apart := false, laid := [("signet/crc.steps", laid_signet_crc_steps)], narrowed := true }
def WireBackUptoSaid : Prop := wireBackUptoRow.holds Tryd.pinned (OpenSpec.upto wireBackSpec)

/-- 'signetlaw08.WireSpoilt', WHERE WHAT IT READS IS OF BULK AT MOST 1048576: true; the input reads as it did. -/
def wireSpoiltUptoRow : OpenClaim := { program := "ytpffebcaalbhjaadoor", sum := "41897b1fb59a5b15e8849babf1189c684ac9be5ce838ff93751b8648efa65af8", func := "signet/signetlaw08.WireSpoilt", spec := "wireSpoilt", named := ["signet/crc.steps"], apart := false, laid := [("signet/crc.steps", laid_signet_crc_steps)], narrowed := true }
def WireSpoiltUptoSaid : Prop := wireSpoiltUptoRow.holds Tryd.pinned (OpenSpec.upto wireSpoiltSpec)

/-- 'signetlaw08.WireStays', WHERE WHAT IT READS IS OF BULK AT MOST 1048576: true; the input reads as it did. -/
def wireStaysUptoRow : OpenClaim := { program := "ytpffebcaalbhjaadoor", sum := "41897b1fb59a5b15e8849babf1189c684ac9be5ce838ff93751b8648efa65af8", func := "signet/signetlaw08.WireStays", spec := "wireStays", named := ["signet/crc.steps"], apart := false, laid := [("signet/crc.steps", laid_signet_crc_steps)], narrowed := true }
def WireStaysUptoSaid : Prop := wireStaysUptoRow.holds Tryd.pinned (OpenSpec.upto wireStaysSpec)

/-- 'signetlaw08.WireNil', WHERE WHAT IT READS IS OF BULK AT MOST 1048576: true; the input reads as it did. -/
def wireNilUptoRow : OpenClaim := { program := "ytpffebcaalbhjaadoor", sum := "41897b1fb59a5b15e8849babf1189c684ac9be5ce838ff93751b8648efa65af8", func := "signet/signetlaw08.WireNil", spec := "wireNil", named := ["signet/crc.steps"], apart := false, laid := [("signet/crc.steps", laid_signet_crc_steps)], narrowed := true }
def WireNilUptoSaid : Prop := wireNilUptoRow.holds Tryd.pinned (OpenSpec.upto wireNilSpec)

/-- 'signetlaw08.WireKeeps', WHERE WHAT IT READS IS OF BULK AT MOST 1048576: true; the input reads as it did. -/
def wireKeepsUptoRow : OpenClaim := { program := "ytpffebcaalbhjaadoor", sum := "41897b1fb59a5b15e8849babf1189c684ac9be5ce838ff93751b8648efa65af8", func := "signet/signetlaw08.WireKeeps", spec := "wireKeeps", named := ["signet/crc.steps"], apart := false, laid := [("signet/crc.steps", laid_signet_crc_steps)], narrowed := true }
def WireKeepsUptoSaid : Prop := wireKeepsUptoRow.holds Tryd.pinned (OpenSpec.upto wireKeepsSpec)

end Rows
end Go.Proofs.YtpffebcaalbhjaaDoor
