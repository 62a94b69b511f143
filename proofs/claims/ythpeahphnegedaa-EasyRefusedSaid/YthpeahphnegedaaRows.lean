/-
  No cell of these rows narrows 'for every input' (looked for: loops, veiled, ifaces, maps, wideKeys, modest, calm, conditions, laid).
  DERIVED. THE GIVEN ROWS OF THIS SEAT. 3 by the template 'for every input the law returns true; each argument reads behind the call as it read before'; 0 by the template 'total and deterministic' (their statements: YthpeahphnegedaaTotals.lean).
  GIVEN WITH THE SEED: the statements are not yours to turn. If you find one false, say at which input.
  Laid BY PROGRAM, IN A SANDBOX (cutbox-rows.mjs): the forced cells as the released guide's own fill.sh prints them over the translation a21eb3e72c943b2b… (all of the seat's roots in one cut). By AI agents, Wed Nov 11 2026. No macro, syntax, notation, axiom, sorry.
-/
import Derived.Test.YthpeahphnegedaaChecked
import GoSem.Claim
import GoSem.ClaimJoined
import GoSem.ClaimMapViews
import Derived.JoinedTies
import Derived.KernelRfl
namespace Go.Proofs.Ythpeahphnegedaa
/- THE CELL 'sum', in the pinned program and in every row, IS THE sha256 OF THE DUMP (.gsa) THAT YthpeahphnegedaaProg.lean LOADS. Nothing in Lean hashes anything: it is a label: what it is worth is what the hold of that sum in a sandbox is worth. -/
noncomputable def Try.pinned : Pinned := { name := "ythpeahphnegedaa", sum := "a21eb3e72c943b2badb6f52b755a19ee396674937db341ccf380e82f73b4253f", checked := Try.checked }
namespace Rows
def none {H : Type} : Left H := { results := [], args := [] }

/-- 'prebendlaw17.EasyNexts': WHATEVER THE INPUT: true; the input reads as it did. -/
def easyNextsSpec : ChangeSpec := { name := "easyNexts", fn := fun _ => fun
  | [d1, d2, d3, d4, d5, d6] => { results := [.lit (.bool true)], args := [d1, d2, d3, d4, d5, d6] }
  | _ => none }
def easyNextsRow : OpenClaim := { program := "ythpeahphnegedaa", sum := "a21eb3e72c943b2badb6f52b755a19ee396674937db341ccf380e82f73b4253f", func := "prebend/prebendlaw17.EasyNexts", spec := "easyNexts", unfollowed := true, recurses := true, apart := false }
def EasyNextsSaid : Prop := easyNextsRow.holds Try.pinned (OpenSpec.ofChange easyNextsSpec)

/-- ITS FALSE NEIGHBOUR: 'it returns false'. Refute it at one input. -/
def easyNextsWrong : ChangeSpec := { name := "easyNexts", fn := fun _ => fun
  | [d1, d2, d3, d4, d5, d6] => { results := [.lit (.bool false)], args := [d1, d2, d3, d4, d5, d6] }
  | _ => none }
def EasyNextsWrongFalsely : Prop := easyNextsRow.holds Try.pinned (OpenSpec.ofChange easyNextsWrong)

/-- 'prebendlaw17.EasyFits': WHATEVER THE INPUT: true; the input reads as it did. -/
def easyFitsSpec : ChangeSpec := { name := "easyFits", fn := fun _ => fun
  | [d1, d2, d3, d4, d5] => { results := [.lit (.bool true)], args := [d1, d2, d3, d4, d5] }
  | _ => none }
def easyFitsRow : OpenClaim := { program := "ythpeahphnegedaa", sum := "a21eb3e72c943b2badb6f52b755a19ee396674937db341ccf380e82f73b4253f", func := "prebend/prebendlaw17.EasyFits", spec := "easyFits", unfollowed := true, recurses := true, apart := false }
def EasyFitsSaid : Prop := easyFitsRow.holds Try.pinned (OpenSpec.ofChange easyFitsSpec)

/-- ITS FALSE NEIGHBOUR: 'it returns false'. Refute it at one input. -/
def easyFitsWrong : ChangeSpec := { name := "easyFits", fn := fun _ => fun
  | [d1, d2, d3, d4, d5] => { results := [.lit (.bool false)], args := [d1, d2, d3, d4, d5] }
  | _ => none }
def EasyFitsWrongFalsely : Prop := easyFitsRow.holds Try.pinned (OpenSpec.ofChange easyFitsWrong)

/-- 'prebendlaw17.EasyRefused': WHATEVER THE INPUT: true; the input reads as it did. -/
def easyRefusedSpec : ChangeSpec := { name := "easyRefused", fn := fun _ => fun
  | [d1, d2, d3, d4] => { results := [.lit (.bool true)], args := [d1, d2, d3, d4] }
  | _ => none }
def easyRefusedRow : OpenClaim := { program := "ythpeahphnegedaa", sum := "a21eb3e72c943b2badb6f52b755a19ee396674937db341ccf380e82f73b4253f", func := "prebend/prebendlaw17.EasyRefused", spec := "easyRefused", unfollowed := true, recurses := true, apart := false }
def EasyRefusedSaid : Prop := easyRefusedRow.holds Try.pinned (OpenSpec.ofChange easyRefusedSpec)

/-- ITS FALSE NEIGHBOUR: 'it returns false'. Refute it at one input. -/
def easyRefusedWrong : ChangeSpec := { name := "easyRefused", fn := fun _ => fun
  | [d1, d2, d3, d4] => { results := [.lit (.bool false)], args := [d1, d2, d3, d4] }
  | _ => none }
def EasyRefusedWrongFalsely : Prop := easyRefusedRow.holds Try.pinned (OpenSpec.ofChange easyRefusedWrong)

/- THE SECOND FORM. 'bulk': how many values and letters a reading holds, each counted each time it is reached (what is shared counts as often as it is met; a slice's spare places count too). A statement '..UptoSaid' is the law's where the arguments, and the package variables that the reading takes, are together of bulk at most 1048576: NARROWER than '..Said'. Prove '..Said' where nothing that the law and all that it calls make is longer than what came in: it says more and counts as full. Else prove '..UptoSaid'. A law counts once. -/
mutual
def uptoBulk {H : Type} : DataW H → Nat
  | .lit (.string bytes) => bytes.length + 1
  | .lit _ => 1
  | .nil => 1
  | .ptr d => uptoBulk d + 1
  | .slice elems spare => uptoBulkAll elems + uptoBulkAll spare + 1
  | .agg parts => uptoBulkAll parts + 1
  | .iface _ d => uptoBulk d + 1
  | .map entries => uptoBulkEntries entries + 1
  | .held _ => 1
def uptoBulkAll {H : Type} : List (DataW H) → Nat
  | [] => 0
  | d :: r => uptoBulk d + uptoBulkAll r
def uptoBulkEntries {H : Type} : List (Lit × DataW H) → Nat
  | [] => 0
  | x :: r => uptoBulkEntry x + uptoBulkEntries r
def uptoBulkEntry {H : Type} : Lit × DataW H → Nat
  | (.string bytes, d) => bytes.length + uptoBulk d + 1
  | (_, d) => uptoBulk d + 1
 end
def uptoSmall : (H : Type) → List (DataW H) → Bool := fun _ ds => decide (uptoBulkAll ds ≤ 1048576)
def OpenSpec.upto (s : _root_.Go.ChangeSpec) : _root_.Go.OpenSpec := { _root_.Go.OpenSpec.ofChange s with cond := some uptoSmall }

/-- 'prebendlaw17.EasyNexts', WHERE WHAT IT READS IS OF BULK AT MOST 1048576: true; the input reads as it did. -/
def easyNextsUptoRow : OpenClaim := { program := "ythpeahphnegedaa", sum := "a21eb3e72c943b2badb6f52b755a19ee396674937db341ccf380e82f73b4253f", func := "prebend/prebendlaw17.EasyNexts", spec := "easyNexts", unfollowed := true, recurses := true, apart := false, narrowed := true }
def EasyNextsUptoSaid : Prop := easyNextsUptoRow.holds Try.pinned (OpenSpec.upto easyNextsSpec)

/-- 'prebendlaw17.EasyFits', WHERE WHAT IT READS IS OF BULK AT MOST 1048576: true; the input reads as it did. -/
def easyFitsUptoRow : OpenClaim := { program := "ythpeahphnegedaa", sum := "a21eb3e72c943b2badb6f52b755a19ee396674937db341ccf380e82f73b4253f", func := "prebend/prebendlaw17.EasyFits", spec := "easyFits", unfollowed := true, recurses := true, apart := false, narrowed := true }
def EasyFitsUptoSaid : Prop := easyFitsUptoRow.holds Try.pinned (OpenSpec.upto easyFitsSpec)

/-- 'prebendlaw17.EasyRefused', WHERE WHAT IT READS IS OF BULK AT MOST 1048576: true; the input reads as it did. -/
def easyRefusedUptoRow : OpenClaim := { program := "ythpeahphnegedaa", sum := "a21eb3e72c943b2badb6f52b755a19ee396674937db341ccf380e82f73b4253f", func := "prebend/prebendlaw17.EasyRefused", spec := "easyRefused", unfollowed := true, recurses := true, apart := false, narrowed := true }
def EasyRefusedUptoSaid : Prop := easyRefusedUptoRow.holds Try.pinned (OpenSpec.upto easyRefusedSpec)

end Rows
end Go.Proofs.Ythpeahphnegedaa
