/-
  NARROWER THAN 'FOR EVERY INPUT', by the rows' own cells (each row's printed sentence says how): TriePlays: laid · TrieOrders: laid · TrieMends: laid · TriePatches: laid · TrieFull: laid.
  DERIVED. THE GIVEN ROWS OF THIS SEAT. 5 by the template 'for every input the law returns true; each argument reads behind the call as it read before'; 0 by the template 'total and deterministic' (their statements: YtpijnkfbgieabaaDoorTotals.lean).
  GIVEN WITH THE SEED: the statements are not yours to turn. If you find one false, say at which input.
  Laid BY PROGRAM, IN A SANDBOX (cutbox-rows.mjs): the forced cells as the released guide's own fill.sh prints them over the translation 01e15be3c322e081… (all of the seat's roots in one cut). By AI agents, Wed Nov 11 2026. No macro, syntax, notation, axiom, sorry.
-/
import Derived.Test.YtpijnkfbgieabaaDoorChecked
import GoSem.Claim
import GoSem.ClaimJoined
import GoSem.ClaimMapViews
import Derived.JoinedTies
import Derived.KernelRfl
namespace Go.Proofs.YtpijnkfbgieabaaDoor
/- THE CELL 'sum', in the pinned program and in every row, IS THE sha256 OF THE DUMP (.gsa) THAT YtpijnkfbgieabaaDoorProg.lean LOADS. Nothing in Lean hashes anything: it is a label: what it is worth is what the hold of that sum in a sandbox is worth. -/
noncomputable def Tryd.pinned : Pinned := { name := "ytpijnkfbgieabaadoor", sum := "01e15be3c322e081219988ce99f9f607a0fc30bfb146f2c8675131f89f6d5572", checked := Tryd.checked }
namespace Rows
def none {H : Type} : Left H := { results := [], args := [] }

/- WHAT THE LISTED PACKAGE-LEVEL VARIABLES READ AS WHEN THE CALL BEGINS. Each datum BY PROGRAM (the guide's laid-datum.mjs) off the statement by which the dump's own 'gosem.cut.vars' lays the variable. In a bare row this is a premise. The card (YtpijnkfbgieabaaDoorCards.lean) ties it to the program's text. -/
def laid_signet_sha_constants {H : Type} : DataW H := .agg [.lit (.int .u32 1116352408), .lit (.int .u32 1899447441), .lit (.int .u32 3049323471), .lit (.int .u32 3921009573), .lit (.int .u32 961987163), .lit (.int .u32 1508970993), .lit (.int .u32 2453635748), .lit (.int .u32 2870763221), .lit (.int .u32 3624381080), .lit (.int .u32 310598401), .lit (.int .u32 607225278), .lit (.int .u32 1426881987), .lit (.int .u32 1925078388), .lit (.int .u32 2162078206), .lit (.int .u32 2614888103), .lit (.int .u32 3248222580), .lit (.int .u32 3835390401), .lit (.int .u32 4022224774), .lit (.int .u32 264347078), .lit (.int .u32 604807628), .lit (.int .u32 770255983), .lit (.int .u32 1249150122), .lit (.int .u32 1555081692), .lit (.int .u32 1996064986), .lit (.int .u32 2554220882), .lit (.int .u32 2821834349), .lit (.int .u32 2952996808), .lit (.int .u32 3210313671), .lit (.int .u32 3336571891), .lit (.int .u32 3584528711), .lit (.int .u32 113926993), .lit (.int .u32 338241895), .lit (.int .u32 666307205), .lit (.int .u32 773529912), .lit (.int .u32 1294757372), .lit (.int .u32 1396182291), .lit (.int .u32 1695183700), .lit (.int .u32 1986661051), .lit (.int .u32 2177026350), .lit (.int .u32 2456956037), .lit (.int .u32 2730485921), .lit (.int .u32 2820302411), .lit (.int .u32 3259730800), .lit (.int .u32 3345764771), .lit (.int .u32 3516065817), .lit (.int .u32 3600352804), .lit (.int .u32 4094571909), .lit (.int .u32 275423344), .lit (.int .u32 430227734), .lit (.int .u32 506948616), .lit (.int .u32 659060556), .lit (.int .u32 883997877), .lit (.int .u32 958139571), .lit (.int .u32 1322822218), .lit (.int .u32 1537002063), .lit (.int .u32 1747873779), .lit (.int .u32 1955562222), .lit (.int .u32 2024104815), .lit (.int .u32 2227730452), .lit (.int .u32 2361852424), .lit (.int .u32 2428436474), .lit (.int .u32 2756734187), .lit (.int .u32 3204031479), .lit (.int .u32 3329325298)]
def laid_signet_sha_beginning {H : Type} : DataW H := .agg [.lit (.int .u32 1779033703), .lit (.int .u32 3144134277), .lit (.int .u32 1013904242), .lit (.int .u32 2773480762), .lit (.int .u32 1359893119), .lit (.int .u32 2600822924), .lit (.int .u32 528734635), .lit (.int .u32 1541459225)]

/-- 'signetlaw13.TriePlays': WHATEVER THE INPUT: true; the input reads as it did. -/
def triePlaysSpec : ChangeSpec := { name := "triePlays", fn := fun _ => fun
  | [d1, d2] => { results := [.lit (.bool true)], args := [d1, d2] }
  | _ => none }
def triePlaysRow : OpenClaim := { program := "ytpijnkfbgieabaadoor", sum := "01e15be3c322e081219988ce99f9f607a0fc30bfb146f2c8675131f89f6d5572", func := "signet/signetlaw13.TriePlays", spec := "triePlays", inPlace := ["internal/bytealg.abigen_runtime_cmpstring"], unfollowed := true, recurses := true, named := ["signet/sha.constants", "signet/sha.beginning"], apart := false, laid := [("signet/sha.constants", laid_signet_sha_constants), ("signet/sha.beginning", laid_signet_sha_beginning)] }
def TriePlaysSaid : Prop := triePlaysRow.holds Tryd.pinned (OpenSpec.ofChange triePlaysSpec)

/-- ITS FALSE NEIGHBOUR: 'it returns false'. Refute it at one input. -/
def triePlaysWrong : ChangeSpec := { name := "triePlays", fn := fun _ => fun
  | [d1, d2] => { results := [.lit (.bool false)], args := [d1, d2] }
  | _ => none }
def TriePlaysWrongFalsely : Prop := triePlaysRow.holds Tryd.pinned (OpenSpec.ofChange triePlaysWrong)

/-- 'signetlaw13.TrieOrders': WHATEVER THE INPUT: true; the input reads as it did. -/
def trieOrdersSpec : ChangeSpec := { name := "trieOrders", fn := fun _ => fun
  | [d1, d2] => { results := [.lit (.bool true)], args := [d1, d2] }
  | _ => none }
def trieOrdersRow : OpenClaim := { program := "ytpijnkfbgieabaadoor", sum := "01e15be3c322e081219988ce99f9f607a0fc30bfb146f2c8675131f89f6d5572", func := "signet/signetlaw13.TrieOrders", spec := "trieOrders", inPlace := ["internal/bytealg.abigen_runtime_cmpstring"], unfollowed := true, recurses := true, named := ["signet/sha.constants", "signet/sha.beginning"], apart := false, laid := [("signet/sha.constants", laid_signet_sha_constants), ("signet/sha.beginning", laid_signet_sha_beginning)] }
def TrieOrdersSaid : Prop := trieOrdersRow.holds Tryd.pinned (OpenSpec.ofChange trieOrdersSpec)

/-- ITS FALSE NEIGHBOUR: 'it returns false'. Refute it at one input. -/
def trieOrdersWrong : ChangeSpec := { name := "trieOrders", fn := fun _ => fun
  | [d1, d2] => { results := [.lit (.bool false)], args := [d1, d2] }
  | _ => none }
def TrieOrdersWrongFalsely : Prop := trieOrdersRow.holds Tryd.pinned (OpenSpec.ofChange trieOrdersWrong)

/-- 'signetlaw13.TrieMends': WHATEVER THE INPUT: true; the input reads as it did. -/
def trieMendsSpec : ChangeSpec := { name := "trieMends", fn := fun _ => fun
  | [d1, d2] => { results := [.lit (.bool true)], args := [d1, d2] }
  | _ => none }
def trieMendsRow : OpenClaim := { program := "ytpijnkfbgieabaadoor", sum := "01e15be3c322e081219988ce99f9f607a0fc30bfb146f2c8675131f89f6d5572", func := "signet/signetlaw13.TrieMends", spec := "trieMends", inPlace := ["internal/bytealg.abigen_runtime_cmpstring"], unfollowed := true, recurses := true, named := ["signet/sha.constants", "signet/sha.beginning"], apart := false, laid := [("signet/sha.constants", laid_signet_sha_constants), ("signet/sha.beginning", laid_signet_sha_beginning)] }
def TrieMendsSaid : Prop := trieMendsRow.holds Tryd.pinned (OpenSpec.ofChange trieMendsSpec)

/-- ITS FALSE NEIGHBOUR: 'it returns false'. Refute it at one input. -/
def trieMendsWrong : ChangeSpec := { name := "trieMends", fn := fun _ => fun
  | [d1, d2] => { results := [.lit (.bool false)], args := [d1, d2] }
  | _ => none }
def TrieMendsWrongFalsely : Prop := trieMendsRow.holds Tryd.pinned (OpenSpec.ofChange trieMendsWrong)

/-- 'signetlaw13.TriePatches': WHATEVER THE INPUT: true; the input reads as it did. -/
def triePatchesSpec : ChangeSpec := { name := "triePatches", fn := fun _ => fun
  | [d1, d2] => { results := [.lit (.bool true)], args := [d1, d2] }
  | _ => none }
def triePatchesRow : OpenClaim := { program := "ytpijnkfbgieabaadoor", sum := "01e15be3c322e081219988ce99f9f607a0fc30bfb146f2c8675131f89f6d5572", func := "signet/signetlaw13.TriePatches", spec := "triePatches", inPlace := ["internal/bytealg.abigen_runtime_cmpstring"], unfollowed := true, recurses := true, named := ["signet/sha.constants", "signet/sha.beginning"], apart := false, laid := [("signet/sha.constants", laid_signet_sha_constants), ("signet/sha.beginning", laid_signet_sha_beginning)] }
def TriePatchesSaid : Prop := triePatchesRow.holds Tryd.pinned (OpenSpec.ofChange triePatchesSpec)

/-- ITS FALSE NEIGHBOUR: 'it returns false'. Refute it at one input. -/
def triePatchesWrong : ChangeSpec := { name := "triePatches", fn := fun _ => fun
  | [d1, d2] => { results := [.lit (.bool false)], args := [d1, d2] }
  | _ => none }
def TriePatchesWrongFalsely : Prop := triePatchesRow.holds Tryd.pinned (OpenSpec.ofChange triePatchesWrong)

/-- 'signetlaw13.TrieFull': WHATEVER THE INPUT: true; the input reads as it did. -/
def trieFullSpec : ChangeSpec := { name := "trieFull", fn := fun _ => fun
  | [d] => { results := [.lit (.bool true)], args := [d] }
  | _ => none }
def trieFullRow : OpenClaim := { program := "ytpijnkfbgieabaadoor", sum := "01e15be3c322e081219988ce99f9f607a0fc30bfb146f2c8675131f89f6d5572", func := "signet/signetlaw13.TrieFull", spec := "trieFull", inPlace := ["internal/bytealg.abigen_runtime_cmpstring"], unfollowed := true, recurses := true, named := ["signet/sha.constants", "signet/sha.beginning"], apart := false, laid := [("signet/sha.constants", laid_signet_sha_constants), ("signet/sha.beginning", laid_signet_sha_beginning)] }
def TrieFullSaid : Prop := trieFullRow.holds Tryd.pinned (OpenSpec.ofChange trieFullSpec)

/-- ITS FALSE NEIGHBOUR: 'it returns false'. Refute it at one input. -/
def trieFullWrong : ChangeSpec := { name := "trieFull", fn := fun _ => fun
  | [d] => { results := [.lit (.bool false)], args := [d] }
  | _ => none }
def TrieFullWrongFalsely : Prop := trieFullRow.holds Tryd.pinned (OpenSpec.ofChange trieFullWrong)

/- THE SECOND FORM. 'bulk': how many values and letters a reading holds, each counted each time it is reached (what is shared counts as often as it is met; a slice's spare places count too). A statement '..UptoSaid' is the law's where the arguments, and the package variables that the reading takes, are together of bulk at most 1048576: NARROWER than '..Said'. Prove '..Said' where nothing that the law and all that it calls make is longer than what came in: it says more and counts as full. Else prove '..UptoSaid'. A law counts once. -/
mutual
def uptoBulk {H : Type} : DataW H → Nat
  | .lit (.string bytes) => bytes.length + 1
  | .lit _ => 1
  | .nil => 1
  | .ptr d => uptoBulk d + 1
  | .slice elems spare => uptoBulkAll elems + uptoBulkAll spare + 1
  | .agg parts => uptoBulkAll parts + 1
  | .iface _ d => uptoBulk d + 1
  | .map entries => uptoBulkEntries entries + 1
  | .held _ => 1
def uptoBulkAll {H : Type} : List (DataW H) → Nat
  | [] => 0
  | d :: r => uptoBulk d + uptoBulkAll r
def uptoBulkEntries {H : Type} : List (Lit × DataW H) → Nat
  | [] => 0
  | x :: r => uptoBulkEntry x + uptoBulkEntries r
def uptoBulkEntry {H : Type} : Lit × DataW H → Nat
  | (.string bytes, d) => bytes.length + uptoBulk d + 1
  | (_, d) => uptoBulk d + 1
 end
def uptoSmall : (H : Type) → List (DataW H) → Bool := fun _ ds => decide (uptoBulkAll ds ≤ 1048576)
def OpenSpec.upto (s : _root_.Go.ChangeSpec) : _root_.Go.OpenSpec := { _root_.Go.OpenSpec.ofChange s with cond := some uptoSmall }

/-- 'signetlaw13.TriePlays', WHERE WHAT IT READS IS OF BULK AT MOST 1048576: true; the input reads as it did. -/
def triePlaysUptoRow : OpenClaim := { program := "ytpijnkfbgieabaadoor", sum := "01e15be3c322e081219988ce99f9f607a0fc30bfb146f2c8675131f89f6d5572", func := "signet/signetlaw13.TriePlays", spec := "triePlays", inPlace := ["internal/bytealg.abigen_runtime_cmpstring"], unfollowed := true, recurses := true, named := ["signet/sha.constants", "signet/sha.beginning"], apart := false, laid := [("signet/sha.constants", laid_signet_sha_constants), ("signet/sha.beginning", laid_signet_sha_beginning)], narrowed := true }
def TriePlaysUptoSaid : Prop := triePlaysUptoRow.holds Tryd.pinned (OpenSpec.upto triePlaysSpec)

/-- 'signetlaw13.TrieOrders', WHERE WHAT IT READS IS OF BULK AT MOST 1048576: true; the input reads as it did. -/
def trieOrdersUptoRow : OpenClaim := { program := "ytpijnkfbgieabaadoor", sum := "01e15be3c322e081219988ce99f9f607a0fc30bfb146f2c8675131f89f6d5572", func := "signet/signetlaw13.TrieOrders", spec := "trieOrders", inPlace := ["internal/bytealg.abigen_runtime_cmpstring"], unfollowed := true, recurses := true, named := ["signet/sha.constants", "signet/sha.beginning"], apart := false, laid := [("signet/sha.constants", laid_signet_sha_constants), ("signet/sha.beginning", laid_signet_sha_beginning)], narrowed := true }
def TrieOrdersUptoSaid : Prop := trieOrdersUptoRow.holds Tryd.pinned (OpenSpec.upto trieOrdersSpec)

/-- 'signetlaw13.TrieMends', WHERE WHAT IT READS IS OF BULK AT MOST 1048576: true; the input reads as it did. -/
def trieMendsUptoRow : OpenClaim := { program := "ytpijnkfbgieabaadoor", sum := "01e15be3c322e081219988ce99f9f607a0fc30bfb146f2c8675131f89f6d5572", func := "signet/signetlaw13.TrieMends", spec := "trieMends", inPlace := ["internal/bytealg.abigen_runtime_cmpstring"], unfollowed := true, recurses := true, named := ["signet/sha.constants", "signet/sha.beginning"], apart := false, laid := [("signet/sha.constants", laid_signet_sha_constants), ("signet/sha.beginning", laid_signet_sha_beginning)], narrowed := true }
def TrieMendsUptoSaid : Prop := trieMendsUptoRow.holds Tryd.pinned (OpenSpec.upto trieMendsSpec)

/-- 'signetlaw13.TriePatches', WHERE WHAT IT READS IS OF BULK AT MOST 1048576: true; the input reads as it did. -/
def triePatchesUptoRow : OpenClaim := { program := "ytpijnkfbgieabaadoor", sum := "01e15be3c322e081219988ce99f9f607a0fc30bfb146f2c8675131f89f6d5572", func := "signet/signetlaw13.TriePatches", spec := "triePatches", inPlace := ["internal/bytealg.abigen_runtime_cmpstring"], unfollowed := true, recurses := true, named := ["signet/sha.constants", "signet/sha.beginning"], apart := false, laid := [("signet/sha.constants", laid_signet_sha_constants), ("signet/sha.beginning", laid_signet_sha_beginning)], narrowed := true }
def TriePatchesUptoSaid : Prop := triePatchesUptoRow.holds Tryd.pinned (OpenSpec.upto triePatchesSpec)

/-- 'signetlaw13.TrieFull', WHERE WHAT IT READS IS OF BULK AT MOST 1048576: true; the input reads as it did. -/
def trieFullUptoRow : OpenClaim := { program := "ytpijnkfbgieabaadoor", sum := "01e15be3c322e081219988ce99f9f607a0fc30bfb146f2c8675131f89f6d5572", func := "signet/signetlaw13.TrieFull", spec := "trieFull", inPlace := ["internal/bytealg.abigen_runtime_cmpstring"], unfollowed := true, recurses := true, named := ["signet/sha.constants", "signet/sha.beginning"], apart := false, laid := [("signet/sha.constants", laid_signet_sha_constants), ("signet/sha.beginning", laid_signet_sha_beginning)], narrowed := true }
def TrieFullUptoSaid : Prop := trieFullUptoRow.holds Tryd.pinned (OpenSpec.upto trieFullSpec)

end Rows
end Go.Proofs.YtpijnkfbgieabaaDoor
