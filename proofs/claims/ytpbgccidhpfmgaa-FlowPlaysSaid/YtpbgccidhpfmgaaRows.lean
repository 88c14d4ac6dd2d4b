/-
  No cell of these rows narrows 'for every input' (looked for: loops, veiled, ifaces, maps, wideKeys, modest, calm, conditions, laid).
  DERIVED. THE GIVEN ROWS OF THIS SEAT. 8 by the template 'for every input the law returns true; each argument reads behind the call as it read before'; 0 by the template 'total and deterministic' (their statements: YtpbgccidhpfmgaaTotals.lean).
  GIVEN WITH THE SEED: the statements are not yours to turn. If you find one false, say at which input.
  Laid BY PROGRAM, IN A SANDBOX (cutbox-rows.mjs): the forced cells as the released guide's own fill.sh prints them over the translation ba0e1f7c03758b09… (all of the seat's roots in one cut). By AI agents, Wed Nov 11 2026. No macro, syntax, notation, axiom, sorry.
-/
import Derived.Test.YtpbgccidhpfmgaaChecked
import GoSem.Claim
import GoSem.ClaimJoined
import GoSem.ClaimMapViews
import Derived.JoinedTies
import Derived.KernelRfl
namespace Go.Proofs.Ytpbgccidhpfmgaa
/- THE CELL 'sum', in the pinned program and in every row, IS THE sha256 OF THE DUMP (.gsa) THAT YtpbgccidhpfmgaaProg.lean LOADS. Nothing in Lean hashes anything: it is a label: what it is worth is what the hold of that sum in a sandbox is worth. -/
noncomputable def Try.pinned : Pinned := { name := "ytpbgccidhpfmgaa", sum := "ba0e1f7c03758b0996efde82d43ad03be05fdd7010638f234ffb9269b1968f75", checked := Try.checked }
namespace Rows
def none {H : Type} : Left H := { results := [], args := [] }

/-- 'towpathlaw11.FlowPlays': WHATEVER THE INPUT: true; the input reads as it did. -/
def flowPlaysSpec : ChangeSpec := { name := "flowPlays", fn := fun _ => fun
  | [d1, d2, d3] => { results := [.lit (.bool true)], args := [d1, d2, d3] }
  | _ => none }
def flowPlaysRow : OpenClaim := { program := "ytpbgccidhpfmgaa", sum := "ba0e1f7c03758b0996efde82d43ad03be05fdd7010638f234ffb9269b1968f75", func := "towpath/towpathlaw11.FlowPlays", spec := "flowPlays", inPlace := ["internal/reflectlite.ValueOf", "internal/reflectlite.Swapper", "(internal/reflectlite.Value).Len"], unfollowed := true, recurses := true, plainKeys := false, apart := false }
def FlowPlaysSaid : Prop := flowPlaysRow.holds Try.pinned (OpenSpec.ofChange flowPlaysSpec)

/-- ITS FALSE NEIGHBOUR: 'it returns false'. Refute it at one input. -/
def flowPlaysWrong : ChangeSpec := { name := "flowPlays", fn := fun _ => fun
  | [d1, d2, d3] => { results := [.lit (.bool false)], args := [d1, d2, d3] }
  | _ => none }
def FlowPlaysWrongFalsely : Prop := flowPlaysRow.holds Try.pinned (OpenSpec.ofChange flowPlaysWrong)

/-- 'towpathlaw11.FlowKeeps': WHATEVER THE INPUT: true; the input reads as it did. -/
def flowKeepsSpec : ChangeSpec := { name := "flowKeeps", fn := fun _ => fun
  | [d1, d2] => { results := [.lit (.bool true)], args := [d1, d2] }
  | _ => none }
def flowKeepsRow : OpenClaim := { program := "ytpbgccidhpfmgaa", sum := "ba0e1f7c03758b0996efde82d43ad03be05fdd7010638f234ffb9269b1968f75", func := "towpath/towpathlaw11.FlowKeeps", spec := "flowKeeps", inPlace := ["internal/reflectlite.ValueOf", "internal/reflectlite.Swapper", "(internal/reflectlite.Value).Len"], unfollowed := true, recurses := true, plainKeys := false, apart := false }
def FlowKeepsSaid : Prop := flowKeepsRow.holds Try.pinned (OpenSpec.ofChange flowKeepsSpec)

/-- ITS FALSE NEIGHBOUR: 'it returns false'. Refute it at one input. -/
def flowKeepsWrong : ChangeSpec := { name := "flowKeeps", fn := fun _ => fun
  | [d1, d2] => { results := [.lit (.bool false)], args := [d1, d2] }
  | _ => none }
def FlowKeepsWrongFalsely : Prop := flowKeepsRow.holds Try.pinned (OpenSpec.ofChange flowKeepsWrong)

/-- 'towpathlaw13.StablePlays': WHATEVER THE INPUT: true; the input reads as it did. -/
def stablePlaysSpec : ChangeSpec := { name := "stablePlays", fn := fun _ => fun
  | [d1, d2] => { results := [.lit (.bool true)], args := [d1, d2] }
  | _ => none }
def stablePlaysRow : OpenClaim := { program := "ytpbgccidhpfmgaa", sum := "ba0e1f7c03758b0996efde82d43ad03be05fdd7010638f234ffb9269b1968f75", func := "towpath/towpathlaw13.StablePlays", spec := "stablePlays", inPlace := ["maps.clone"], unfollowed := true, recurses := true, plainKeys := false, apart := false }
def StablePlaysSaid : Prop := stablePlaysRow.holds Try.pinned (OpenSpec.ofChange stablePlaysSpec)

/-- ITS FALSE NEIGHBOUR: 'it returns false'. Refute it at one input. -/
def stablePlaysWrong : ChangeSpec := { name := "stablePlays", fn := fun _ => fun
  | [d1, d2] => { results := [.lit (.bool false)], args := [d1, d2] }
  | _ => none }
def StablePlaysWrongFalsely : Prop := stablePlaysRow.holds Try.pinned (OpenSpec.ofChange stablePlaysWrong)

/-- 'towpathlaw13.StableSynced': WHATEVER THE INPUT: true; the input reads as it did. -/
def stableSyncedSpec : ChangeSpec := { name := "stableSynced", fn := fun _ => fun
  | [d1, d2, d3] => { results := [.lit (.bool true)], args := [d1, d2, d3] }
  | _ => none }
def stableSyncedRow : OpenClaim := { program := "ytpbgccidhpfmgaa", sum := "ba0e1f7c03758b0996efde82d43ad03be05fdd7010638f234ffb9269b1968f75", func := "towpath/towpathlaw13.StableSynced", spec := "stableSynced", inPlace := ["maps.clone"], unfollowed := true, recurses := true, plainKeys := false, apart := false }
def StableSyncedSaid : Prop := stableSyncedRow.holds Try.pinned (OpenSpec.ofChange stableSyncedSpec)

/-- ITS FALSE NEIGHBOUR: 'it returns false'. Refute it at one input. -/
def stableSyncedWrong : ChangeSpec := { name := "stableSynced", fn := fun _ => fun
  | [d1, d2, d3] => { results := [.lit (.bool false)], args := [d1, d2, d3] }
  | _ => none }
def StableSyncedWrongFalsely : Prop := stableSyncedRow.holds Try.pinned (OpenSpec.ofChange stableSyncedWrong)

/-- 'towpathlaw13.StableFull': WHATEVER THE INPUT: true; the input reads as it did. -/
def stableFullSpec : ChangeSpec := { name := "stableFull", fn := fun _ => fun
  | [d1, d2, d3] => { results := [.lit (.bool true)], args := [d1, d2, d3] }
  | _ => none }
def stableFullRow : OpenClaim := { program := "ytpbgccidhpfmgaa", sum := "ba0e1f7c03758b0996efde82d43ad03be05fdd7010638f234ffb9269b1968f75", func := "towpath/towpathlaw13.StableFull", spec := "stableFull", inPlace := ["maps.clone"], unfollowed := true, recurses := true, plainKeys := false, apart := false }
def StableFullSaid : Prop := stableFullRow.holds Try.pinned (OpenSpec.ofChange stableFullSpec)

/-- ITS FALSE NEIGHBOUR: 'it returns false'. Refute it at one input. -/
def stableFullWrong : ChangeSpec := { name := "stableFull", fn := fun _ => fun
  | [d1, d2, d3] => { results := [.lit (.bool false)], args := [d1, d2, d3] }
  | _ => none }
def StableFullWrongFalsely : Prop := stableFullRow.holds Try.pinned (OpenSpec.ofChange stableFullWrong)

/-- 'towpathlaw13.StableOwns': WHATEVER THE INPUT: true; the input reads as it did. -/
def stableOwnsSpec : ChangeSpec := { name := "stableOwns", fn := fun _ => fun
  | [d1, d2] => { results := [.lit (.bool true)], args := [d1, d2] }
  | _ => none }
def stableOwnsRow : OpenClaim := { program := "ytpbgccidhpfmgaa", sum := "ba0e1f7c03758b0996efde82d43ad03be05fdd7010638f234ffb9269b1968f75", func := "towpath/towpathlaw13.StableOwns", spec := "stableOwns", inPlace := ["maps.clone"], plainKeys := false, apart := false }
def StableOwnsSaid : Prop := stableOwnsRow.holds Try.pinned (OpenSpec.ofChange stableOwnsSpec)

/-- ITS FALSE NEIGHBOUR: 'it returns false'. Refute it at one input. -/
def stableOwnsWrong : ChangeSpec := { name := "stableOwns", fn := fun _ => fun
  | [d1, d2] => { results := [.lit (.bool false)], args := [d1, d2] }
  | _ => none }
def StableOwnsWrongFalsely : Prop := stableOwnsRow.holds Try.pinned (OpenSpec.ofChange stableOwnsWrong)

/-- 'towpathlaw13.StableNone': WHATEVER THE INPUT: true; the input reads as it did. -/
def stableNoneSpec : ChangeSpec := { name := "stableNone", fn := fun _ => fun
  | [d1, d2] => { results := [.lit (.bool true)], args := [d1, d2] }
  | _ => none }
def stableNoneRow : OpenClaim := { program := "ytpbgccidhpfmgaa", sum := "ba0e1f7c03758b0996efde82d43ad03be05fdd7010638f234ffb9269b1968f75", func := "towpath/towpathlaw13.StableNone", spec := "stableNone", inPlace := ["maps.clone"], unfollowed := true, recurses := true, plainKeys := false, apart := false }
def StableNoneSaid : Prop := stableNoneRow.holds Try.pinned (OpenSpec.ofChange stableNoneSpec)

/-- ITS FALSE NEIGHBOUR: 'it returns false'. Refute it at one input. -/
def stableNoneWrong : ChangeSpec := { name := "stableNone", fn := fun _ => fun
  | [d1, d2] => { results := [.lit (.bool false)], args := [d1, d2] }
  | _ => none }
def StableNoneWrongFalsely : Prop := stableNoneRow.holds Try.pinned (OpenSpec.ofChange stableNoneWrong)

/-- 'towpathlaw13.StableTwo': WHATEVER THE INPUT: true; the input reads as it did. -/
def stableTwoSpec : ChangeSpec := { name := "stableTwo", fn := fun _ => fun
  | [d] => { results := [.lit (.bool true)], args := [d] }
  | _ => none }
def stableTwoRow : OpenClaim := { program := "ytpbgccidhpfmgaa", sum := "ba0e1f7c03758b0996efde82d43ad03be05fdd7010638f234ffb9269b1968f75", func := "towpath/towpathlaw13.StableTwo", spec := "stableTwo", inPlace := ["maps.clone"], unfollowed := true, recurses := true, plainKeys := false, apart := false }
def StableTwoSaid : Prop := stableTwoRow.holds Try.pinned (OpenSpec.ofChange stableTwoSpec)

/-- ITS FALSE NEIGHBOUR: 'it returns false'. Refute it at one input. -/
def stableTwoWrong : ChangeSpec := { name := "stableTwo", fn := fun _ => fun
  | [d] => { results := [.lit (.bool false)], args := [d] }
  | _ => none }
def StableTwoWrongFalsely : Prop := stableTwoRow.holds Try.pinned (OpenSpec.ofChange stableTwoWrong)

/- THE SECOND FORM. 'bulk': how many values and letters a reading holds, each counted each time it is reached (what is shared counts as often as it is met; a slice's spare places count too). A statement '..UptoSaid' is the law's where the arguments, and the package variables that the reading takes, are together of bulk at most 1048576: NARROWER than '..Said'. Prove '..Said' where nothing that the law and all that it calls make is longer than what came in: it says more and counts as full. Else prove '..UptoSaid'. A law counts once. -/
mutual
def uptoBulk {H : Type} : DataW H → Nat
  | .lit (.string bytes) => bytes.length + 1
  | .lit _ => 1
  | .nil => 1
  | .ptr d => uptoBulk d + 1
  | .slice elems spare => uptoBulkAll elems + uptoBulkAll spare + 1
  | .agg parts => uptoBulkAll parts + 1
  | .iface _ d => uptoBulk d + 1
  | .map entries => uptoBulkEntries entries + 1
  | .held _ => 1
def uptoBulkAll {H : Type} : List (DataW H) → Nat
  | [] => 0
  | d :: r => uptoBulk d + uptoBulkAll r
def uptoBulkEntries {H : Type} : List (Lit × DataW H) → Nat
  | [] => 0
  | x :: r => uptoBulkEntry x + uptoBulkEntries r
def uptoBulkEntry {H : Type} : Lit × DataW H → Nat
  | (.string bytes, d) => bytes.length + uptoBulk d + 1
  | (_, d) => uptoBulk d + 1
 end
def uptoSmall : (H : Type) → List (DataW H) → Bool := fun _ ds => decide (uptoBulkAll ds ≤ 1048576)
def OpenSpec.upto (s : _root_.Go.ChangeSpec) : _root_.Go.OpenSpec := { _root_.Go.OpenSpec.ofChange s with cond := some uptoSmall }

/-- 'towpathlaw11.FlowPlays', WHERE WHAT IT READS IS OF BULK AT MOST 1048576: true; the input reads as it did. -/
def flowPlaysUptoRow : OpenClaim := { program := "ytpbgccidhpfmgaa", sum := "ba0e1f7c03758b0996efde82d43ad03be05fdd7010638f234ffb9269b1968f75", func := "towpath/towpathlaw11.FlowPlays", spec := "flowPlays", inPlace := ["internal/reflectlite.ValueOf", "internal/reflectlite.Swapper", "(internal/reflectlite.Value).Len"], unfollowed := true, recurses := true, plainKeys := false, apart := false, narrowed := true }
def FlowPlaysUptoSaid : Prop := flowPlaysUptoRow.holds Try.pinned (OpenSpec.upto flowPlaysSpec)

/-- 'towpathlaw11.FlowKeeps', WHERE WHAT IT READS IS OF BULK AT MOST 1048576: true; the input reads as it did. -/
def flowKeepsUptoRow : OpenClaim := { program := "ytpbgccidhpfmgaa", sum := "ba0e1f7c03758b0996efde82d43ad03be05fdd7010638f234ffb9269b1968f75", func := "towpath/towpathlaw11.FlowKeeps", spec := "flowKeeps", inPlace := ["internal/reflectlite.ValueOf", "internal/reflectlite.Swapper", "(internal/reflectlite.Value).Len"], unfollowed := true, recurses := true, plainKeys := false, apart := false, narrowed := true }
def FlowKeepsUptoSaid : Prop := flowKeepsUptoRow.holds Try.pinned (OpenSpec.upto flowKeepsSpec)

/-- 'towpathlaw13.StablePlays', WHERE WHAT IT READS IS OF BULK AT MOST 1048576: true; the input reads as it did. -/
def stablePlaysUptoRow : OpenClaim := { program := "ytpbgccidhpfmgaa", sum := "ba0e1f7c03758b0996efde82d43ad03be05fdd7010638f234ffb9269b1968f75", func := "towpath/towpathlaw13.StablePlays", spec := "stablePlays", inPlace := ["maps.clone"], unfollowed := true, recurses := true, plainKeys := false, apart := false, narrowed := true }
def StablePlaysUptoSaid : Prop := stablePlaysUptoRow.holds Try.pinned (OpenSpec.upto stablePlaysSpec)

/-- 'towpathlaw13.StableSynced', WHERE WHAT IT READS IS OF BULK AT MOST 1048576: true; the input reads as it did. -/
def stableSyncedUptoRow : OpenClaim := { program := "ytpbgccidhpfmgaa", sum := "ba0e1f7c03758b0996efde82d43ad03be05fdd7010638f234ffb9269b1968f75", func := "towpath/towpathlaw13.StableSynced", spec := "stableSynced", inPlace := ["maps.clone"], unfollowed := true, recurses := true, plainKeys := false, apart := false, narrowed := true }
def StableSyncedUptoSaid : Prop := stableSyncedUptoRow.holds Try.pinned (OpenSpec.upto stableSyncedSpec)

/-- 'towpathlaw13.StableFull', WHERE WHAT IT READS IS OF BULK AT MOST 1048576: true; the input reads as it did. -/
def stableFullUptoRow : OpenClaim := { program := "ytpbgccidhpfmgaa", sum := "ba0e1f7c03758b0996efde82d43ad03be05fdd7010638f234ffb9269b1968f75", func := "towpath/towpathlaw13.StableFull", spec := "stableFull", inPlace := ["maps.clone"], unfollowed := true, recurses := true, plainKeys := false, apart := false, narrowed := true }
def StableFullUptoSaid : Prop := stableFullUptoRow.holds Try.pinned (OpenSpec.upto stableFullSpec)

/-- 'towpathlaw13.StableOwns', WHERE WHAT IT READS IS OF BULK AT MOST 1048576: true; the input reads as it did. -/
def stableOwnsUptoRow : OpenClaim := { program := "ytpbgccidhpfmgaa", sum := "ba0e1f7c03758b0996efde82d43ad03be05fdd7010638f234ffb9269b1968f75", func := "towpath/towpathlaw13.StableOwns", spec := "stableOwns", inPlace := ["maps.clone"], plainKeys := false, apart := false, narrowed := true }
def StableOwnsUptoSaid : Prop := stableOwnsUptoRow.holds Try.pinned (OpenSpec.upto stableOwnsSpec)

/-- 'towpathlaw13.StableNone', WHERE WHAT IT READS IS OF BULK AT MOST 1048576: true; the input reads as it did. -/
def stableNoneUptoRow : OpenClaim := { program := "ytpbgccidhpfmgaa", sum := "ba0e1f7c03758b0996efde82d43ad03be05fdd7010638f234ffb9269b1968f75", func := "towpath/towpathlaw13.StableNone", spec := "stableNone", inPlace := ["maps.clone"], unfollowed := true, recurses := true, plainKeys := false, apart := false, narrowed := true }
def StableNoneUptoSaid : Prop := stableNoneUptoRow.holds Try.pinned (OpenSpec.upto stableNoneSpec)

/-- 'towpathlaw13.StableTwo', WHERE WHAT IT READS IS OF BULK AT MOST 1048576: true; the input reads as it did. -/
def stableTwoUptoRow : OpenClaim := { program := "ytpbgccidhpfmgaa", sum := "ba0e1f7c03758b0996efde82d43ad03be05fdd7010638f234ffb9269b1968f75", func := "towpath/towpathlaw13.StableTwo", spec := "stableTwo", inPlace := ["maps.clone"], unfollowed := true, recurses := true, plainKeys := false, apart := false, narrowed := true }
def StableTwoUptoSaid : Prop := stableTwoUptoRow.holds Try.pinned (OpenSpec.upto stableTwoSpec)

end Rows
end Go.Proofs.Ytpbgccidhpfmgaa
