/-
  No cell of these rows narrows 'for every input' (looked for: loops, veiled, ifaces, maps, wideKeys, modest, calm, conditions, laid).
  DERIVED. THE GIVEN ROWS OF THIS SEAT. 4 by the template 'for every input the law returns true; each argument reads behind the call as it read before'; 0 by the template 'total and deterministic' (their statements: YtagecoofaoaodaaTotals.lean).
  GIVEN WITH THE SEED: the statements are not yours to turn. If you find one false, say at which input.
  Laid BY PROGRAM, IN A SANDBOX (cutbox-rows.mjs): the forced cells as the released guide's own fill.sh prints them over the translation 0b88da6237c546d8… (all of the seat's roots in one cut). By AI agents, Wed Nov 11 2026. No macro, syntax, notation, axiom, sorry.
-/
import Derived.Test.YtagecoofaoaodaaChecked
import GoSem.Claim
import GoSem.ClaimJoined
import GoSem.ClaimMapViews
import Derived.JoinedTies
import Derived.KernelRfl
namespace Go.Proofs.Ytagecoofaoaodaa
/- THE CELL 'sum', in the pinned program and in every row, IS THE sha256 OF THE DUMP (.gsa) THAT YtagecoofaoaodaaProg.lean LOADS. Nothing in Lean hashes anything: it is a label: what it is worth is what the hold of that sum in a sandbox is worth. -/
noncomputable def Try.pinned : Pinned := { name := "ytagecoofaoaodaa", sum := "0b88da6237c546d8e9c3b09b20cadac0392049a4ae7ea037baceffc17e6cd6e8", checked := Try.checked }
namespace Rows
def none {H : Type} : Left H := { results := [], args := [] }

/-- 'prebendlaw16.ProfilePlays': WHATEVER THE INPUT: true; the input reads as it did. -/
def profilePlaysSpec : ChangeSpec := { name := "profilePlays", fn := fun _ => fun
  | [d1, d2, d3, d4, d5, d6, d7] => { results := [.lit (.bool true)], args := [d1, d2, d3, d4, d5, d6, d7] }
  | _ => none }
def profilePlaysRow : OpenClaim := { program := "ytagecoofaoaodaa", sum := "0b88da6237c546d8e9c3b09b20cadac0392049a4ae7ea037baceffc17e6cd6e8", func := "prebend/prebendlaw16.ProfilePlays", spec := "profilePlays", unfollowed := true, recurses := true, apart := false }
def ProfilePlaysSaid : Prop := profilePlaysRow.holds Try.pinned (OpenSpec.ofChange profilePlaysSpec)

/-- ITS FALSE NEIGHBOUR: 'it returns false'. Refute it at one input. -/
def profilePlaysWrong : ChangeSpec := { name := "profilePlays", fn := fun _ => fun
  | [d1, d2, d3, d4, d5, d6, d7] => { results := [.lit (.bool false)], args := [d1, d2, d3, d4, d5, d6, d7] }
  | _ => none }
def ProfilePlaysWrongFalsely : Prop := profilePlaysRow.holds Try.pinned (OpenSpec.ofChange profilePlaysWrong)

/-- 'prebendlaw16.ProfileCounts': WHATEVER THE INPUT: true; the input reads as it did. -/
def profileCountsSpec : ChangeSpec := { name := "profileCounts", fn := fun _ => fun
  | [d1, d2, d3] => { results := [.lit (.bool true)], args := [d1, d2, d3] }
  | _ => none }
def profileCountsRow : OpenClaim := { program := "ytagecoofaoaodaa", sum := "0b88da6237c546d8e9c3b09b20cadac0392049a4ae7ea037baceffc17e6cd6e8", func := "prebend/prebendlaw16.ProfileCounts", spec := "profileCounts", unfollowed := true, recurses := true, apart := false }
def ProfileCountsSaid : Prop := profileCountsRow.holds Try.pinned (OpenSpec.ofChange profileCountsSpec)

/-- ITS FALSE NEIGHBOUR: 'it returns false'. Refute it at one input. -/
def profileCountsWrong : ChangeSpec := { name := "profileCounts", fn := fun _ => fun
  | [d1, d2, d3] => { results := [.lit (.bool false)], args := [d1, d2, d3] }
  | _ => none }
def ProfileCountsWrongFalsely : Prop := profileCountsRow.holds Try.pinned (OpenSpec.ofChange profileCountsWrong)

/-- 'prebendlaw16.ProfileFits': WHATEVER THE INPUT: true; the input reads as it did. -/
def profileFitsSpec : ChangeSpec := { name := "profileFits", fn := fun _ => fun
  | [d1, d2, d3, d4] => { results := [.lit (.bool true)], args := [d1, d2, d3, d4] }
  | _ => none }
def profileFitsRow : OpenClaim := { program := "ytagecoofaoaodaa", sum := "0b88da6237c546d8e9c3b09b20cadac0392049a4ae7ea037baceffc17e6cd6e8", func := "prebend/prebendlaw16.ProfileFits", spec := "profileFits", unfollowed := true, recurses := true, apart := false }
def ProfileFitsSaid : Prop := profileFitsRow.holds Try.pinned (OpenSpec.ofChange profileFitsSpec)

/-- ITS FALSE NEIGHBOUR: 'it returns false'. Refute it at one input. -/
def profileFitsWrong : ChangeSpec := { name := "profileFits", fn := fun _ => fun
  | [d1, d2, d3, d4] => { results := [.lit (.bool false)], args := [d1, d2, d3, d4] }
  | _ => none }
def ProfileFitsWrongFalsely : Prop := profileFitsRow.holds Try.pinned (OpenSpec.ofChange profileFitsWrong)

/-- 'prebendlaw16.ProfileTakes': WHATEVER THE INPUT: true; the input reads as it did. -/
def profileTakesSpec : ChangeSpec := { name := "profileTakes", fn := fun _ => fun
  | [d1, d2, d3, d4, d5, d6] => { results := [.lit (.bool true)], args := [d1, d2, d3, d4, d5, d6] }
  | _ => none }
def profileTakesRow : OpenClaim := { program := "ytagecoofaoaodaa", sum := "0b88da6237c546d8e9c3b09b20cadac0392049a4ae7ea037baceffc17e6cd6e8", func := "prebend/prebendlaw16.ProfileTakes", spec := "profileTakes", unfollowed := true, recurses := true, apart := false }
def ProfileTakesSaid : Prop := profileTakesRow.holds Try.pinned (OpenSpec.ofChange profileTakesSpec)

/-- ITS FALSE NEIGHBOUR: 'it returns false'. Refute it at one input. -/
def profileTakesWrong : ChangeSpec := { name := "profileTakes", fn := fun _ => fun
  | [d1, d2, d3, d4, d5, d6] => { results := [.lit (.bool false)], args := [d1, d2, d3, d4, d5, d6] }
  | _ => none }
def ProfileTakesWrongFalsely : Prop := profileTakesRow.holds Try.pinned (OpenSpec.ofChange profileTakesWrong)

/- THE SECOND FORM. 'bulk': how many values and letters a reading holds, each counted each time it is reached (what is shared counts as often as it is met; a slice's spare places count too). A statement '..UptoSaid' is the law's where the arguments, and the package variables that the reading takes, are together of bulk at most 1048576: NARROWER than '..Said'. Prove '..Said' where nothing that the law and all that it calls make is longer than what came in: it says more and counts as full. Else prove '..UptoSaid'. A law counts once. -/
mutual
def uptoBulk {H : Type} : DataW H → Nat
  | .lit (.string bytes) => bytes.length + 1
  | .lit _ => 1
  | .nil => 1
  | .ptr d => uptoBulk d + 1
  | .slice elems spare => uptoBulkAll elems + uptoBulkAll spare + 1
  | .agg parts => uptoBulkAll parts + 1
  | .iface _ d => uptoBulk d + 1
  | .map entries => uptoBulkEntries entries + 1
  | .held _ => 1
def uptoBulkAll {H : Type} : List (DataW H) → Nat
  | [] => 0
  | d :: r => uptoBulk d + uptoBulkAll r
def uptoBulkEntries {H : Type} : List (Lit × DataW H) → Nat
  | [] => 0
  | x :: r => uptoBulkEntry x + uptoBulkEntries r
def uptoBulkEntry {H : Type} : Lit × DataW H → Nat
  | (.string bytes, d) => bytes.length + uptoBulk d + 1
  | (_, d) => uptoBulk d + 1
 end
def uptoSmall : (H : Type) → List (DataW H) → Bool := fun _ ds => decide (uptoBulkAll ds ≤ 1048576)
def OpenSpec.upto (s : _root_.Go.ChangeSpec) : _root_.Go.OpenSpec := { _root_.Go.OpenSpec.ofChange s with cond := some uptoSmall }

/-- 'prebendlaw16.ProfilePlays', WHERE WHAT IT READS IS OF BULK AT MOST 1048576: true; the input reads as it did. -/
def profilePlaysUptoRow : OpenClaim := { program := "ytagecoofaoaodaa", sum := "0b88da6237c546d8e9c3b09b20cadac0392049a4ae7ea037baceffc17e6cd6e8", func := "prebend/prebendlaw16.ProfilePlays", spec := "profilePlays", unfollowed := true, recurses := true, apart := false, narrowed := true }
def ProfilePlaysUptoSaid : Prop := profilePlaysUptoRow.holds Try.pinned (OpenSpec.upto profilePlaysSpec)

/-- 'prebendlaw16.ProfileCounts', WHERE WHAT IT READS IS OF BULK AT MOST 1048576: true; the input reads as it did. -/
def profileCountsUptoRow : OpenClaim := { program := "ytagecoofaoaodaa", sum := "0b88da6237c546d8e9c3b09b20cadac0392049a4ae7ea037baceffc17e6cd6e8", func := "prebend/prebendlaw16.ProfileCounts", spec := "profileCounts", unfollowed := true, recurses := true, apart := false, narrowed := true }
def ProfileCountsUptoSaid : Prop := profileCountsUptoRow.holds Try.pinned (OpenSpec.upto profileCountsSpec)

/-- 'prebendlaw16.ProfileFits', WHERE WHAT IT READS IS OF BULK AT MOST 1048576: true; the input reads as it did. -/
def profileFitsUptoRow : OpenClaim := { program := "ytagecoofaoaodaa", sum := "0b88da6237c546d8e9c3b09b20cadac0392049a4ae7ea037baceffc17e6cd6e8", func := "prebend/prebendlaw16.ProfileFits", spec := "profileFits", unfollowed := true, recurses := true, apart := false, narrowed := true }
def ProfileFitsUptoSaid : Prop := profileFitsUptoRow.holds Try.pinned (OpenSpec.upto profileFitsSpec)

/-- 'prebendlaw16.ProfileTakes', WHERE WHAT IT READS IS OF BULK AT MOST 1048576: true; the input reads as it did. -/
def profileTakesUptoRow : OpenClaim := { program := "ytagecoofaoaodaa", sum := "0b88da6237c546d8e9c3b09b20cadac0392049a4ae7ea037baceffc17e6cd6e8", func := "prebend/prebendlaw16.ProfileTakes", spec := "profileTakes", unfollowed := true, recurses := true, apart := false, narrowed := true }
def ProfileTakesUptoSaid : Prop := profileTakesUptoRow.holds Try.pinned (OpenSpec.upto profileTakesSpec)

end Rows
end Go.Proofs.Ytagecoofaoaodaa
