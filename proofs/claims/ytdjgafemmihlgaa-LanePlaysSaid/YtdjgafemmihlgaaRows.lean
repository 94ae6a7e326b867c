/-
  No cell of these rows narrows 'for every input' (looked for: loops, veiled, ifaces, maps, wideKeys, modest, calm, conditions, laid).
  DERIVED. THE GIVEN ROWS OF THIS SEAT. 4 by the template 'for every input the law returns true; each argument reads behind the call as it read before'; 0 by the template 'total and deterministic' (their statements: YtdjgafemmihlgaaTotals.lean).
  GIVEN WITH THE SEED: the statements are not yours to turn. If you find one false, say at which input.
  Laid BY PROGRAM, IN A SANDBOX (cutbox-rows.mjs): the forced cells as the released guide's own fill.sh prints them over the translation d79005abea0881ed… (all of the seat's roots in one cut). By AI agents, Wed Nov 11 2026. No macro, syntax, notation, axiom, sorry.
-/
import Derived.Test.YtdjgafemmihlgaaChecked
import GoSem.Claim
import GoSem.ClaimJoined
import GoSem.ClaimMapViews
import Derived.JoinedTies
import Derived.KernelRfl
namespace Go.Proofs.Ytdjgafemmihlgaa
/- THE CELL 'sum', in the pinned program and in every row, IS THE sha256 OF THE DUMP (.gsa) THAT YtdjgafemmihlgaaProg.lean LOADS. Nothing in Lean hashes anything: it is a label: what it is worth is what the hold of that sum in a sandbox is worth. -/
noncomputable def Try.pinned : Pinned := { name := "ytdjgafemmihlgaa", sum := "d79005abea0881ede1e174dc7d6e72a131a537d35e186e988779891d3b8ca604", checked := Try.checked }
namespace Rows
def none {H : Type} : Left H := { results := [], args := [] }

/-- 'signetlaw11.LanePlays': WHATEVER THE INPUT: true; the input reads as it did. -/
def lanePlaysSpec : ChangeSpec := { name := "lanePlays", fn := fun _ => fun
  | [d1, d2] => { results := [.lit (.bool true)], args := [d1, d2] }
  | _ => none }
def lanePlaysRow : OpenClaim := { program := "ytdjgafemmihlgaa", sum := "d79005abea0881ede1e174dc7d6e72a131a537d35e186e988779891d3b8ca604", func := "signet/signetlaw11.LanePlays", spec := "lanePlays", plainKeys := false, apart := false }
def LanePlaysSaid : Prop := lanePlaysRow.holds Try.pinned (OpenSpec.ofChange lanePlaysSpec)

/-- ITS FALSE NEIGHBOUR: 'it returns false'. Refute it at one input. -/
def lanePlaysWrong : ChangeSpec := { name := "lanePlays", fn := fun _ => fun
  | [d1, d2] => { results := [.lit (.bool false)], args := [d1, d2] }
  | _ => none }
def LanePlaysWrongFalsely : Prop := lanePlaysRow.holds Try.pinned (OpenSpec.ofChange lanePlaysWrong)

/-- 'signetlaw11.LaneOrders': WHATEVER THE INPUT: true; the input reads as it did. -/
def laneOrdersSpec : ChangeSpec := { name := "laneOrders", fn := fun _ => fun
  | [d1, d2] => { results := [.lit (.bool true)], args := [d1, d2] }
  | _ => none }
def laneOrdersRow : OpenClaim := { program := "ytdjgafemmihlgaa", sum := "d79005abea0881ede1e174dc7d6e72a131a537d35e186e988779891d3b8ca604", func := "signet/signetlaw11.LaneOrders", spec := "laneOrders", plainKeys := false, apart := false }
def LaneOrdersSaid : Prop := laneOrdersRow.holds Try.pinned (OpenSpec.ofChange laneOrdersSpec)

/-- ITS FALSE NEIGHBOUR: 'it returns false'. Refute it at one input. -/
def laneOrdersWrong : ChangeSpec := { name := "laneOrders", fn := fun _ => fun
  | [d1, d2] => { results := [.lit (.bool false)], args := [d1, d2] }
  | _ => none }
def LaneOrdersWrongFalsely : Prop := laneOrdersRow.holds Try.pinned (OpenSpec.ofChange laneOrdersWrong)

/-- 'signetlaw11.LaneFull': WHATEVER THE INPUT: true; the input reads as it did. -/
def laneFullSpec : ChangeSpec := { name := "laneFull", fn := fun _ => fun
  | [d1, d2] => { results := [.lit (.bool true)], args := [d1, d2] }
  | _ => none }
def laneFullRow : OpenClaim := { program := "ytdjgafemmihlgaa", sum := "d79005abea0881ede1e174dc7d6e72a131a537d35e186e988779891d3b8ca604", func := "signet/signetlaw11.LaneFull", spec := "laneFull", plainKeys := false, apart := false }
def LaneFullSaid : Prop := laneFullRow.holds Try.pinned (OpenSpec.ofChange laneFullSpec)

/-- ITS FALSE NEIGHBOUR: 'it returns false'. Refute it at one input. -/
def laneFullWrong : ChangeSpec := { name := "laneFull", fn := fun _ => fun
  | [d1, d2] => { results := [.lit (.bool false)], args := [d1, d2] }
  | _ => none }
def LaneFullWrongFalsely : Prop := laneFullRow.holds Try.pinned (OpenSpec.ofChange laneFullWrong)

/-- 'signetlaw11.LaneKeeps': WHATEVER THE INPUT: true; the input reads as it did. -/
def laneKeepsSpec : ChangeSpec := { name := "laneKeeps", fn := fun _ => fun
  | [d1, d2] => { results := [.lit (.bool true)], args := [d1, d2] }
  | _ => none }
def laneKeepsRow : OpenClaim := { program := "ytdjgafemmihlgaa", sum := "d79005abea0881ede1e174dc7d6e72a131a537d35e186e988779891d3b8ca604", func := "signet/signetlaw11.LaneKeeps", spec := "laneKeeps", plainKeys := false, apart := false }
def LaneKeepsSaid : Prop := laneKeepsRow.holds Try.pinned (OpenSpec.ofChange laneKeepsSpec)

/-- ITS FALSE NEIGHBOUR: 'it returns false'. Refute it at one input. -/
def laneKeepsWrong : ChangeSpec := { name := "laneKeeps", fn := fun _ => fun
  | [d1, d2] => { results := [.lit (.bool false)], args := [d1, d2] }
  | _ => none }
def LaneKeepsWrongFalsely : Prop := laneKeepsRow.holds Try.pinned (OpenSpec.ofChange laneKeepsWrong)

/- THE SECOND FORM. 'bulk': how many values and letters a reading holds, each counted each time it is reached (what is shared counts as often as it is met; a slice's spare places count too). A statement '..UptoSaid' is the law's where the arguments, and the package variables that the reading takes, are together of bulk at most 1048576: NARROWER than '..Said'. Prove '..Said' where nothing that the law and all that it calls make is longer than what came in: it says more and counts as full. Else prove '..UptoSaid'. A law counts once. -/
mutual
def uptoBulk {H : Type} : DataW H → Nat
  | .lit (.string bytes) => bytes.length + 1
  | .lit _ => 1
  | .nil => 1
  | .ptr d => uptoBulk d + 1
  | .slice elems spare => uptoBulkAll elems + uptoBulkAll spare + 1
  | .agg parts => uptoBulkAll parts + 1
  | .iface _ d => uptoBulk d + 1
  | .map entries => uptoBulkEntries entries + 1
  | .held _ => 1
def uptoBulkAll {H : Type} : List (DataW H) → Nat
  | [] => 0
  | d :: r => uptoBulk d + uptoBulkAll r
def uptoBulkEntries {H : Type} : List (Lit × DataW H) → Nat
  | [] => 0
  | x :: r => uptoBulkEntry x + uptoBulkEntries r
def uptoBulkEntry {H : Type} : Lit × DataW H → Nat
  | (.string bytes, d) => bytes.length + uptoBulk d + 1
  | (_, d) => uptoBulk d + 1
 end
def uptoSmall : (H : Type) → List (DataW H) → Bool := fun _ ds => decide (uptoBulkAll ds ≤ 1048576)
def OpenSpec.upto (s : _root_.Go.ChangeSpec) : _root_.Go.OpenSpec := { _root_.Go.OpenSpec.ofChange s with cond := some uptoSmall }

/-- 'signetlaw11.LanePlays', WHERE WHAT IT READS IS OF BULK AT MOST 1048576: true; the input reads as it did. -/
def lanePlaysUptoRow : OpenClaim := { program := "ytdjgafemmihlgaa", sum := "d79005abea0881ede1e174dc7d6e72a131a537d35e186e988779891d3b8ca604", func := "signet/signetlaw11.LanePlays", spec := "lanePlays", plainKeys := false, apart := false, narrowed := true }
def LanePlaysUptoSaid : Prop := lanePlaysUptoRow.holds Try.pinned (OpenSpec.upto lanePlaysSpec)

/-- 'signetlaw11.LaneOrders', WHERE WHAT IT READS IS OF BULK AT MOST 1048576: true; the input reads as it did. -/
def laneOrdersUptoRow : OpenClaim := { program := "ytdjgafemmihlgaa", sum := "d79005abea0881ede1e174dc7d6e72a131a537d35e186e988779891d3b8ca604", func := "signet/signetlaw11.LaneOrders", spec := "laneOrders", plainKeys := false, apart := false, narrowed := true }
def LaneOrdersUptoSaid : Prop := laneOrdersUptoRow.holds Try.pinned (OpenSpec.upto laneOrdersSpec)

/-- 'signetlaw11.LaneFull', WHERE WHAT IT READS IS OF BULK AT MOST 1048576: true; the input reads as it did. -/
def laneFullUptoRow : OpenClaim := { program := "ytdjgafemmihlgaa", sum := "d79005abea0881ede1e174dc7d6e72a131a537d35e186e988779891d3b8ca604", func := "signet/signetlaw11.LaneFull", spec := "laneFull", plainKeys := false, apart := false, narrowed := true }
def LaneFullUptoSaid : Prop := laneFullUptoRow.holds Try.pinned (OpenSpec.upto laneFullSpec)

/-- 'signetlaw11.LaneKeeps', WHERE WHAT IT READS IS OF BULK AT MOST 1048576: true; the input reads as it did. -/
def laneKeepsUptoRow : OpenClaim := { program := "ytdjgafemmihlgaa", sum := "d79005abea0881ede1e174dc7d6e72a131a537d35e186e988779891d3b8ca604", func := "signet/signetlaw11.LaneKeeps", spec := "laneKeeps", plainKeys := false, apart := false, narrowed := true }
def LaneKeepsUptoSaid : Prop := laneKeepsUptoRow.holds Try.pinned (OpenSpec.upto laneKeepsSpec)

end Rows
end Go.Proofs.Ytdjgafemmihlgaa
