/-
  NARROWER THAN 'FOR EVERY INPUT', by the rows' own cells (each row's printed sentence says how): GrantDoes: laid · GrantMay: laid · GrantOnce: laid · GrantFalls: laid · GrantOthers: laid · GrantNarrow: laid · GrantFull: laid · GrantPuts: laid · GrantCopies: laid.
  DERIVED. THE GIVEN ROWS OF THIS SEAT. 9 by the template 'for every input the law returns true; each argument reads behind the call as it read before'; 0 by the template 'total and deterministic' (their statements: YthagdkipipldlaaGreatDoorTotals.lean).
  GIVEN WITH THE SEED: the statements are not yours to turn. If you find one false, say at which input.
  Laid BY PROGRAM, IN A SANDBOX (cutbox-rows.mjs): the forced cells as the released guide's own fill.sh prints them over the translation c6636483ca933cf4… (all of the seat's roots in one cut). By AI agents, Wed Nov 11 2026. No macro, syntax, notation, axiom, sorry.
-/
import Derived.Test.YthagdkipipldlaaGreatDoorChecked
import GoSem.Claim
import GoSem.ClaimJoined
import GoSem.ClaimMapViews
import Derived.JoinedTies
import Derived.KernelRfl
namespace Go.Proofs.YthagdkipipldlaaGreatDoor
/- THE CELL 'sum', in the pinned program and in every row, IS THE sha256 OF THE DUMP (.gsa) THAT YthagdkipipldlaaGreatDoorProg.lean LOADS. Nothing in Lean hashes anything: it is a label: what it is worth is what the hold of that sum in a sandbox is worth. -/
noncomputable def Tryz.pinned : Pinned := { name := "ythagdkipipldlaagreatdoor", sum := "c6636483ca933cf425a2686301424c003f3f5a794ce3f04347820041acc36a83", checked := Tryz.checked }
namespace Rows
def none {H : Type} : Left H := { results := [], args := [] }

/- WHAT THE LISTED PACKAGE-LEVEL VARIABLES READ AS WHEN THE CALL BEGINS. Each datum BY PROGRAM (the guide's laid-datum.mjs) off the statement by which the dump's own 'gosem.cut.vars' lays the variable. In a bare row this is a premise. The card (YthagdkipipldlaaGreatDoorCards.lean) ties it to the program's text. -/
def laid_signet_sha_constants {H : Type} : DataW H := .agg [.lit (.int .u32 1116352408), .lit (.int .u32 1899447441), .lit (.int .u32 3049323471), .lit (.int .u32 3921009573), .lit (.int .u32 961987163), .lit (.int .u32 1508970993), .lit (.int .u32 2453635748), .lit (.int .u32 2870763221), .lit (.int .u32 3624381080), .lit (.int .u32 310598401), .lit (.int .u32 607225278), .lit (.int .u32 1426881987), .lit (.int .u32 1925078388), .lit (.int .u32 2162078206), .lit (.int .u32 2614888103), .lit (.int .u32 3248222580), .lit (.int .u32 3835390401), .lit (.int .u32 4022224774), .lit (.int .u32 264347078), .lit (.int .u32 604807628), .lit (.int .u32 770255983), .lit (.int .u32 1249150122), .lit (.int .u32 1555081692), .lit (.int .u32 1996064986), .lit (.int .u32 2554220882), .lit (.int .u32 2821834349), .lit (.int .u32 2952996808), .lit (.int .u32 3210313671), .lit (.int .u32 3336571891), .lit (.int .u32 3584528711), .lit (.int .u32 113926993), .lit (.int .u32 338241895), .lit (.int .u32 666307205), .lit (.int .u32 773529912), .lit (.int .u32 1294757372), .lit (.int .u32 1396182291), .lit (.int .u32 1695183700), .lit (.int .u32 1986661051), .lit (.int .u32 2177026350), .lit (.int .u32 2456956037), .lit (.int .u32 2730485921), .lit (.int .u32 2820302411), .lit (.int .u32 3259730800), .lit (.int .u32 3345764771), .lit (.int .u32 3516065817), .lit (.int .u32 3600352804), .lit (.int .u32 4094571909), .lit (.int .u32 275423344), .lit (.int .u32 430227734), .lit (.int .u32 506948616), .lit (.int .u32 659060556), .lit (.int .u32 883997877), .lit (.int .u32 958139571), .lit (.int .u32 1322822218), .lit (.int .u32 1537002063), .lit (.int .u32 1747873779), .lit (.int .u32 1955562222), .lit (.int .u32 2024104815), .lit (.int .u32 2227730452), .lit (.int .u32 2361852424), .lit (.int .u32 2428436474), .lit (.int .u32 2756734187), .lit (.int .u32 3204031479), .lit (.int .u32 3329325298)]
def laid_signet_sha_beginning {H : Type} : DataW H := .agg [.lit (.int .u32 1779033703), .lit (.int .u32 3144134277), .lit (.int .u32 1013904242), .lit (.int .u32 2773480762), .lit (.int .u32 1359893119), .lit (.int .u32 2600822924), .lit (.int .u32 528734635), .lit (.int .u32 1541459225)]

/-- 'signetlaw17.GrantDoes': WHATEVER THE INPUT: true; the input reads as it did. -/
def grantDoesSpec : ChangeSpec := { name := "grantDoes", fn := fun _ => fun
  | [d1, d2, d3] => { results := [.lit (.bool true)], args := [d1, d2, d3] }
  | _ => none }
def grantDoesRow : OpenClaim := { program := "ythagdkipipldlaagreatdoor", sum := "c6636483ca933cf425a2686301424c003f3f5a794ce3f04347820041acc36a83", func := "signet/signetlaw17.GrantDoes", spec := "grantDoes", inPlace := ["internal/bytealg.IndexByteString", "internal/abi.NoEscape", "internal/bytealg.MakeNoZero", "slices.overlaps[int]"], unfollowed := true, recurses := true, named := ["signet/sha.constants", "signet/sha.beginning"], apart := false, laid := [("signet/sha.constants", laid_signet_sha_constants), ("signet/sha.beginning", laid_signet_sha_beginning)] }
def GrantDoesSaid : Prop := grantDoesRow.holds Tryz.pinned (OpenSpec.ofChange grantDoesSpec)

/-- ITS FALSE NEIGHBOUR: 'it returns false'. Refute it at one input. -/
def grantDoesWrong : ChangeSpec := { name := "grantDoes", fn := fun _ => fun
  | [d1, d2, d3] => { results := [.lit (.bool false)], args := [d1, d2, d3] }
  | _ => none }
def GrantDoesWrongFalsely : Prop := grantDoesRow.holds Tryz.pinned (OpenSpec.ofChange grantDoesWrong)

/-- 'signetlaw17.GrantMay': WHATEVER THE INPUT: true; the input reads as it did. -/
def grantMaySpec : ChangeSpec := { name := "grantMay", fn := fun _ => fun
  | [d1, d2, d3] => { results := [.lit (.bool true)], args := [d1, d2, d3] }
  | _ => none }
def grantMayRow : OpenClaim := { program := "ythagdkipipldlaagreatdoor", sum := "c6636483ca933cf425a2686301424c003f3f5a794ce3f04347820041acc36a83", func := "signet/signetlaw17.GrantMay", spec := "grantMay", inPlace := ["internal/bytealg.IndexByteString", "internal/abi.NoEscape", "internal/bytealg.MakeNoZero", "slices.overlaps[int]"], unfollowed := true, recurses := true, named := ["signet/sha.constants", "signet/sha.beginning"], apart := false, laid := [("signet/sha.constants", laid_signet_sha_constants), ("signet/sha.beginning", laid_signet_sha_beginning)] }
def GrantMaySaid : Prop := grantMayRow.holds Tryz.pinned (OpenSpec.ofChange grantMaySpec)

/-- ITS FALSE NEIGHBOUR: 'it returns false'. Refute it at one input. -/
def grantMayWrong : ChangeSpec := { name := "grantMay", fn := fun _ => fun
  | [d1, d2, d3] => { results := [.lit (.bool false)], args := [d1, d2, d3] }
  | _ => none }
def GrantMayWrongFalsely : Prop := grantMayRow.holds Tryz.pinned (OpenSpec.ofChange grantMayWrong)

/-- 'signetlaw17.GrantOnce': WHATEVER THE INPUT: true; the input reads as it did. -/
def grantOnceSpec : ChangeSpec := { name := "grantOnce", fn := fun _ => fun
  | [d1, d2, d3] => { results := [.lit (.bool true)], args := [d1, d2, d3] }
  | _ => none }
def grantOnceRow : OpenClaim := { program := "ythagdkipipldlaagreatdoor", sum := "c6636483ca933cf425a2686301424c003f3f5a794ce3f04347820041acc36a83", func := "signet/signetlaw17.GrantOnce", spec := "grantOnce", inPlace := ["internal/bytealg.IndexByteString", "internal/abi.NoEscape", "internal/bytealg.MakeNoZero", "slices.overlaps[int]"], unfollowed := true, recurses := true, named := ["signet/sha.constants", "signet/sha.beginning"], apart := false, laid := [("signet/sha.constants", laid_signet_sha_constants), ("signet/sha.beginning", laid_signet_sha_beginning)] }
def GrantOnceSaid : Prop := grantOnceRow.holds Tryz.pinned (OpenSpec.ofChange grantOnceSpec)

/-- ITS FALSE NEIGHBOUR: 'it returns false'. Refute it at one input. -/
def grantOnceWrong : ChangeSpec := { name := "grantOnce", fn := fun _ => fun
  | [d1, d2, d3] => { results := [.lit (.bool false)], args := [d1, d2, d3] }
  | _ => none }
def GrantOnceWrongFalsely : Prop := grantOnceRow.holds Tryz.pinned (OpenSpec.ofChange grantOnceWrong)

/-- 'signetlaw17.GrantFalls': WHATEVER THE INPUT: true; the input reads as it did. -/
def grantFallsSpec : ChangeSpec := { name := "grantFalls", fn := fun _ => fun
  | [d1, d2, d3, d4] => { results := [.lit (.bool true)], args := [d1, d2, d3, d4] }
  | _ => none }
def grantFallsRow : OpenClaim := { program := "ythagdkipipldlaagreatdoor", sum := "c6636483ca933cf425a2686301424c003f3f5a794ce3f04347820041acc36a83", func := "signet/signetlaw17.GrantFalls", spec := "grantFalls", inPlace := ["internal/bytealg.IndexByteString", "internal/abi.NoEscape", "internal/bytealg.MakeNoZero", "slices.overlaps[int]"], unfollowed := true, recurses := true, named := ["signet/sha.constants", "signet/sha.beginning"], apart := false, laid := [("signet/sha.constants", laid_signet_sha_constants), ("signet/sha.beginning", laid_signet_sha_beginning)] }
def GrantFallsSaid : Prop := grantFallsRow.holds Tryz.pinned (OpenSpec.ofChange grantFallsSpec)

/-- ITS FALSE NEIGHBOUR: 'it returns false'. Refute it at one input. -/
def grantFallsWrong : ChangeSpec := { name := "grantFalls", fn := fun _ => fun
  | [d1, d2, d3, d4] => { results := [.lit (.bool false)], args := [d1, d2, d3, d4] }
  | _ => none }
def GrantFallsWrongFalsely : Prop := grantFallsRow.holds Tryz.pinned (OpenSpec.ofChange grantFallsWrong)

/-- 'signetlaw17.GrantOthers': WHATEVER THE INPUT: true; the input reads as it did. -/
def grantOthersSpec : ChangeSpec := { name := "grantOthers", fn := fun _ => fun
  | [d1, d2] => { results := [.lit (.bool true)], args := [d1, d2] }
  | _ => none }
def grantOthersRow : OpenClaim := { program := "ythagdkipipldlaagreatdoor", sum := "c6636483ca933cf425a2686301424c003f3f5a794ce3f04347820041acc36a83", func := "signet/signetlaw17.GrantOthers", spec := "grantOthers", inPlace := ["internal/bytealg.IndexByteString", "internal/abi.NoEscape", "internal/bytealg.MakeNoZero", "slices.overlaps[int]"], unfollowed := true, recurses := true, named := ["signet/sha.constants", "signet/sha.beginning"], apart := false, laid := [("signet/sha.constants", laid_signet_sha_constants), ("signet/sha.beginning", laid_signet_sha_beginning)] }
def GrantOthersSaid : Prop := grantOthersRow.holds Tryz.pinned (OpenSpec.ofChange grantOthersSpec)

/-- ITS FALSE NEIGHBOUR: 'it returns false'. Refute it at one input. -/
def grantOthersWrong : ChangeSpec := { name := "grantOthers", fn := fun _ => fun
  | [d1, d2] => { results := [.lit (.bool false)], args := [d1, d2] }
  | _ => none }
def GrantOthersWrongFalsely : Prop := grantOthersRow.holds Tryz.pinned (OpenSpec.ofChange grantOthersWrong)

/-- 'signetlaw17.GrantNarrow': WHATEVER THE INPUT: true; the input reads as it did. -/
def grantNarrowSpec : ChangeSpec := { name := "grantNarrow", fn := fun _ => fun
  | [d1, d2] => { results := [.lit (.bool true)], args := [d1, d2] }
  | _ => none }
def grantNarrowRow : OpenClaim := { program := "ythagdkipipldlaagreatdoor", sum := "c6636483ca933cf425a2686301424c003f3f5a794ce3f04347820041acc36a83", func := "signet/signetlaw17.GrantNarrow", spec := "grantNarrow", inPlace := ["internal/bytealg.IndexByteString", "internal/abi.NoEscape", "internal/bytealg.MakeNoZero", "slices.overlaps[int]"], unfollowed := true, recurses := true, named := ["signet/sha.constants", "signet/sha.beginning"], apart := false, laid := [("signet/sha.constants", laid_signet_sha_constants), ("signet/sha.beginning", laid_signet_sha_beginning)] }
def GrantNarrowSaid : Prop := grantNarrowRow.holds Tryz.pinned (OpenSpec.ofChange grantNarrowSpec)

/-- ITS FALSE NEIGHBOUR: 'it returns false'. Refute it at one input. -/
def grantNarrowWrong : ChangeSpec := { name := "grantNarrow", fn := fun _ => fun
  | [d1, d2] => { results := [.lit (.bool false)], args := [d1, d2] }
  | _ => none }
def GrantNarrowWrongFalsely : Prop := grantNarrowRow.holds Tryz.pinned (OpenSpec.ofChange grantNarrowWrong)

/-- 'signetlaw17.GrantFull': WHATEVER THE INPUT: true; the input reads as it did. -/
def grantFullSpec : ChangeSpec := { name := "grantFull", fn := fun _ => fun
  | [d1, d2, d3] => { results := [.lit (.bool true)], args := [d1, d2, d3] }
  | _ => none }
def grantFullRow : OpenClaim := { program := "ythagdkipipldlaagreatdoor", sum := "c6636483ca933cf425a2686301424c003f3f5a794ce3f04347820041acc36a83", func := "signet/signetlaw17.GrantFull", spec := "grantFull", inPlace := ["internal/bytealg.IndexByteString", "internal/abi.NoEscape", "internal/bytealg.MakeNoZero", "slices.overlaps[int]"], unfollowed := true, recurses := true, named := ["signet/sha.constants", "signet/sha.beginning"], apart := false, laid := [("signet/sha.constants", laid_signet_sha_constants), ("signet/sha.beginning", laid_signet_sha_beginning)] }
def GrantFullSaid : Prop := grantFullRow.holds Tryz.pinned (OpenSpec.ofChange grantFullSpec)

/-- ITS FALSE NEIGHBOUR: 'it returns false'. Refute it at one input. -/
def grantFullWrong : ChangeSpec := { name := "grantFull", fn := fun _ => fun
  | [d1, d2, d3] => { results := [.lit (.bool false)], args := [d1, d2, d3] }
  | _ => none }
def GrantFullWrongFalsely : Prop := grantFullRow.holds Tryz.pinned (OpenSpec.ofChange grantFullWrong)

/-- 'signetlaw17.GrantPuts': WHATEVER THE INPUT: true; the input reads as it did. -/
def grantPutsSpec : ChangeSpec := { name := "grantPuts", fn := fun _ => fun
  | [d1, d2, d3, d4] => { results := [.lit (.bool true)], args := [d1, d2, d3, d4] }
  | _ => none }
def grantPutsRow : OpenClaim := { program := "ythagdkipipldlaagreatdoor", sum := "c6636483ca933cf425a2686301424c003f3f5a794ce3f04347820041acc36a83", func := "signet/signetlaw17.GrantPuts", spec := "grantPuts", inPlace := ["internal/bytealg.IndexByteString", "internal/abi.NoEscape", "internal/bytealg.MakeNoZero", "slices.overlaps[int]"], unfollowed := true, recurses := true, named := ["signet/sha.constants", "signet/sha.beginning"], apart := false, laid := [("signet/sha.constants", laid_signet_sha_constants), ("signet/sha.beginning", laid_signet_sha_beginning)] }
def GrantPutsSaid : Prop := grantPutsRow.holds Tryz.pinned (OpenSpec.ofChange grantPutsSpec)

/-- ITS FALSE NEIGHBOUR: 'it returns false'. Refute it at one input. -/
def grantPutsWrong : ChangeSpec := { name := "grantPuts", fn := fun _ => fun
  | [d1, d2, d3, d4] => { results := [.lit (.bool false)], args := [d1, d2, d3, d4] }
  | _ => none }
def GrantPutsWrongFalsely : Prop := grantPutsRow.holds Tryz.pinned (OpenSpec.ofChange grantPutsWrong)

/-- 'signetlaw17.GrantCopies': WHATEVER THE INPUT: true; the input reads as it did. -/
def grantCopiesSpec : ChangeSpec := { name := "grantCopies", fn := fun _ => fun
  | [d1, d2, d3] => { results := [.lit (.bool true)], args := [d1, d2, d3] }
  | _ => none }
def grantCopiesRow : OpenClaim := { program := "ythagdkipipldlaagreatdoor", sum := "c6636483ca933cf425a2686301424c003f3f5a794ce3f04347820041acc36a83", func := "signet/signetlaw17.GrantCopies", spec := "grantCopies", inPlace := ["internal/bytealg.IndexByteString", "internal/abi.NoEscape", "internal/bytealg.MakeNoZero", "slices.overlaps[int]"], unfollowed := true, recurses := true, named := ["signet/sha.constants", "signet/sha.beginning"], apart := false, laid := [("signet/sha.constants", laid_signet_sha_constants), ("signet/sha.beginning", laid_signet_sha_beginning)] }
def GrantCopiesSaid : Prop := grantCopiesRow.holds Tryz.pinned (OpenSpec.ofChange grantCopiesSpec)

/-- ITS FALSE NEIGHBOUR: 'it returns false'. Refute it at one input. -/
def grantCopiesWrong : ChangeSpec := { name := "grantCopies", fn := fun _ => fun
  | [d1, d2, d3] => { results := [.lit (.bool false)], args := [d1, d2, d3] }
  | _ => none }
def GrantCopiesWrongFalsely : Prop := grantCopiesRow.holds Tryz.pinned (OpenSpec.ofChange grantCopiesWrong)

/- THE SECOND FORM. 'bulk': how many values and letters a reading holds, each counted each time it is reached (what is shared counts as often as it is met; a slice's spare places count too). A statement '..UptoSaid' is the law's where the arguments, and the package variables that the reading takes, are together of bulk at most 1048576: NARROWER than '..Said'. Prove '..Said' where nothing that the law and all that it calls make is longer than what came in: it says more and counts as full. Else prove '..UptoSaid'. A law counts once. -/
mutual
def uptoBulk {H : Type} : DataW H → Nat
  | .lit (.string bytes) => bytes.length + 1
  | .lit _ => 1
  | .nil => 1
  | .ptr d => uptoBulk d + 1
  | .slice elems spare => uptoBulkAll elems + uptoBulkAll spare + 1
  | .agg parts => uptoBulkAll parts + 1
  | .iface _ d => uptoBulk d + 1
  | .map entries => uptoBulkEntries entries + 1
  | .held _ => 1
def uptoBulkAll {H : Type} : List (DataW H) → Nat
  | [] => 0
  | d :: r => uptoBulk d + uptoBulkAll r
def uptoBulkEntries {H : Type} : List (Lit × DataW H) → Nat
  | [] => 0
  | x :: r => uptoBulkEntry x + uptoBulkEntries r
def uptoBulkEntry {H : Type} : Lit × DataW H → Nat
  | (.string bytes, d) => bytes.length + uptoBulk d + 1
  | (_, d) => uptoBulk d + 1
 end
def uptoSmall : (H : Type) → List (DataW H) → Bool := fun _ ds => decide (uptoBulkAll ds ≤ 1048576)
def OpenSpec.upto (s : _root_.Go.ChangeSpec) : _root_.Go.OpenSpec := { _root_.Go.OpenSpec.ofChange s with cond := some uptoSmall }

/-- 'signetlaw17.GrantDoes', WHERE WHAT IT READS IS OF BULK AT MOST 1048576: true; the input reads as it did. -/
def grantDoesUptoRow : OpenClaim := { program := "ythagdkipipldlaagreatdoor", sum := "c6636483ca933cf425a2686301424c003f3f5a794ce3f04347820041acc36a83", func := "signet/signetlaw17.GrantDoes", spec := "grantDoes", inPlace := ["internal/bytealg.IndexByteString", "internal/abi.NoEscape", "internal/bytealg.MakeNoZero", "slices.overlaps[int]"], unfollowed := true, recurses := true, named := ["signet/sha.constants", "signet/sha.beginning"], apart := false, laid := [("signet/sha.constants", laid_signet_sha_constants), ("signet/sha.beginning", laid_signet_sha_beginning)], narrowed := true }
def GrantDoesUptoSaid : Prop := grantDoesUptoRow.holds Tryz.pinned (OpenSpec.upto grantDoesSpec)

/-- 'signetlaw17.GrantMay', WHERE WHAT IT READS IS OF BULK AT MOST 1048576: true; the input reads as it did. -/
def grantMayUptoRow : OpenClaim := { program := "ythagdkipipldlaagreatdoor", sum := "c6636483ca933cf425a2686301424c003f3f5a794ce3f04347820041acc36a83", func := "signet/signetlaw17.GrantMay", spec := "grantMay", inPlace := ["internal/bytealg.IndexByteString", "internal/abi.NoEscape", "internal/bytealg.MakeNoZero", "slices.overlaps[int]"], unfollowed := true, recurses := true, named := ["signet/sha.constants", "signet/sha.beginning"], apart := false, laid := [("signet/sha.constants", laid_signet_sha_constants), ("signet/sha.beginning", laid_signet_sha_beginning)], narrowed := true }
def GrantMayUptoSaid : Prop := grantMayUptoRow.holds Tryz.pinned (OpenSpec.upto grantMaySpec)

/-- 'signetlaw17.GrantOnce', WHERE WHAT IT READS IS OF BULK AT MOST 1048576: true; the input reads as it did. -/
def grantOnceUptoRow : OpenClaim := { program := "ythagdkipipldlaagreatdoor", sum := "c6636483ca933cf425a2686301424c003f3f5a794ce3f04347820041acc36a83", func := "signet/signetlaw17.GrantOnce", spec := "grantOnce", inPlace := ["internal/bytealg.IndexByteString", "internal/abi.NoEscape", "internal/bytealg.MakeNoZero", "slices.overlaps[int]"], unfollowed := true, recurses := true, named := ["signet/sha.constants", "signet/sha.beginning"], apart := false, laid := [("signet/sha.constants", laid_signet_sha_constants), ("signet/sha.beginning", laid_signet_sha_beginning)], narrowed := true }
def GrantOnceUptoSaid : Prop := grantOnceUptoRow.holds Tryz.pinned (OpenSpec.upto grantOnceSpec)

/-- 'signetlaw17.GrantFalls', WHERE WHAT IT READS IS OF BULK AT MOST 1048576: true; the input reads as it did. -/
def grantFallsUptoRow : OpenClaim := { program := "ythagdkipipldlaagreatdoor", sum := "c6636483ca933cf425a2686301424c003f3f5a794ce3f04347820041acc36a83", func := "signet/signetlaw17.GrantFalls", spec := "grantFalls", inPlace := ["internal/bytealg.IndexByteString", "internal/abi.NoEscape", "internal/bytealg.MakeNoZero", "slices.overlaps[int]"], unfollowed := true, recurses := true, named := ["signet/sha.constants", "signet/sha.beginning"], apart := false, laid := [("signet/sha.constants", laid_signet_sha_constants), ("signet/sha.beginning", laid_signet_sha_beginning)], narrowed := true }
def GrantFallsUptoSaid : Prop := grantFallsUptoRow.holds Tryz.pinned (OpenSpec.upto grantFallsSpec)

/-- 'signetlaw17.GrantOthers', WHERE WHAT IT READS IS OF BULK AT MOST 1048576: true; the input reads as it did. -/
def grantOthersUptoRow : OpenClaim := { program := "ythagdkipipldlaagreatdoor", sum := "c6636483ca933cf425a2686301424c003f3f5a794ce3f04347820041acc36a83", func := "signet/signetlaw17.GrantOthers", spec := "grantOthers", inPlace := ["internal/bytealg.IndexByteString", "internal/abi.NoEscape", "internal/bytealg.MakeNoZero", "slices.overlaps[int]"], unfollowed := true, recurses := true, named := ["signet/sha.constants", "signet/sha.beginning"], apart := false, laid := [("signet/sha.constants", laid_signet_sha_constants), ("signet/sha.beginning", laid_signet_sha_beginning)], narrowed := true }
def GrantOthersUptoSaid : Prop := grantOthersUptoRow.holds Tryz.pinned (OpenSpec.upto grantOthersSpec)

/-- 'signetlaw17.GrantNarrow', WHERE WHAT IT READS IS OF BULK AT MOST 1048576: true; the input reads as it did. -/
def grantNarrowUptoRow : OpenClaim := { program := "ythagdkipipldlaagreatdoor", sum := "c6636483ca933cf425a2686301424c003f3f5a794ce3f04347820041acc36a83", func := "signet/signetlaw17.GrantNarrow", spec := "grantNarrow", inPlace := ["internal/bytealg.IndexByteString", "internal/abi.NoEscape", "internal/bytealg.MakeNoZero", "slices.overlaps[int]"], unfollowed := true, recurses := true, named := ["signet/sha.constants", "signet/sha.beginning"], apart := false, laid := [("signet/sha.constants", laid_signet_sha_constants), ("signet/sha.beginning", laid_signet_sha_beginning)], narrowed := true }
def GrantNarrowUptoSaid : Prop := grantNarrowUptoRow.holds Tryz.pinned (OpenSpec.upto grantNarrowSpec)

/-- 'signetlaw17.GrantFull', WHERE WHAT IT READS IS OF BULK AT MOST 1048576: true; the input reads as it did. -/
def grantFullUptoRow : OpenClaim := { program := "ythagdkipipldlaagreatdoor", sum := "c6636483ca933cf425a2686301424c003f3f5a794ce3f04347820041acc36a83", func := "signet/signetlaw17.GrantFull", spec := "grantFull", inPlace := ["internal/bytealg.IndexByteString", "internal/abi.NoEscape", "internal/bytealg.MakeNoZero", "slices.overlaps[int]"], unfollowed := true, recurses := true, named := ["signet/sha.constants", "signet/sha.beginning"], apart := false, laid := [("signet/sha.constants", laid_signet_sha_constants), ("signet/sha.beginning", laid_signet_sha_beginning)], narrowed := true }
def GrantFullUptoSaid : Prop := grantFullUptoRow.holds Tryz.pinned (OpenSpec.upto grantFullSpec)

/-- 'signetlaw17.GrantPuts', WHERE WHAT IT READS IS OF BULK AT MOST 1048576: true; the input reads as it did. -/
def grantPutsUptoRow : OpenClaim := { program := "ythagdkipipldlaagreatdoor", sum := "c6636483ca933cf425a2686301424c003f3f5a794ce3f04347820041acc36a83", func := "signet/signetlaw17.GrantPuts", spec := "grantPuts", inPlace := ["internal/bytealg.IndexByteString", "internal/abi.NoEscape", "internal/bytealg.MakeNoZero", "slices.overlaps[int]"], unfollowed := true, recurses := true, named := ["signet/sha.constants", "signet/sha.beginning"], apart := false, laid := [("signet/sha.constants", laid_signet_sha_constants), ("signet/sha.beginning", laid_signet_sha_beginning)], narrowed := true }
def GrantPutsUptoSaid : Prop := grantPutsUptoRow.holds Tryz.pinned (OpenSpec.upto grantPutsSpec)

/-- 'signetlaw17.GrantCopies', WHERE WHAT IT READS IS OF BULK AT MOST 1048576: true; the input reads as it did. -/
def grantCopiesUptoRow : OpenClaim := { program := "ythagdkipipldlaagreatdoor", sum := "c6636483ca933cf425a2686301424c003f3f5a794ce3f04347820041acc36a83", func := "signet/signetlaw17.GrantCopies", spec := "grantCopies", inPlace := ["internal/bytealg.IndexByteString", "internal/abi.NoEscape", "internal/bytealg.MakeNoZero", "slices.overlaps[int]"], unfollowed := true, recurses := true, named := ["signet/sha.constants", "signet/sha.beginning"], apart := false, laid := [("signet/sha.constants", laid_signet_sha_constants), ("signet/sha.beginning", laid_signet_sha_beginning)], narrowed := true }
def GrantCopiesUptoSaid : Prop := grantCopiesUptoRow.holds Tryz.pinned (OpenSpec.upto grantCopiesSpec)

end Rows
end Go.Proofs.YthagdkipipldlaaGreatDoor
