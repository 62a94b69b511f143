/-
  No cell of these rows narrows 'for every input' (looked for: loops, veiled, ifaces, maps, wideKeys, modest, calm, conditions, laid).
  DERIVED. THE GIVEN ROWS OF THIS SEAT. 3 by the template 'for every input the law returns true; each argument reads behind the call as it read before'; 0 by the template 'total and deterministic' (their statements: YtpmllbecgiedeaaTotals.lean).
  GIVEN WITH THE SEED: the statements are not yours to turn. If you find one false, say at which input.
  Laid BY PROGRAM, IN A SANDBOX (cutbox-rows.mjs): the forced cells as the released guide's own fill.sh prints them over the translation 141f9bdf38f45662… (all of the seat's roots in one cut). By AI agents, Wed Nov 11 2026. No macro, syntax, notation, axiom, sorry.
-/
import Derived.Test.YtpmllbecgiedeaaChecked
import GoSem.Claim
import GoSem.ClaimJoined
import GoSem.ClaimMapViews
import Derived.JoinedTies
import Derived.KernelRfl
namespace Go.Proofs.Ytpmllbecgiedeaa
/- THE CELL 'sum', in the pinned program and in every row, IS THE sha256 OF THE DUMP (.gsa) THAT YtpmllbecgiedeaaProg.lean LOADS. Nothing in Lean hashes anything: it is a label: what it is worth is what the hold of that sum in a sandbox is worth. -/
noncomputable def Try.pinned : Pinned := { name := "ytpmllbecgiedeaa", sum := "141f9bdf38f45662e4baeba055379a98d5d07c44d6abaa58cc4c54c5ecf6f153", checked := Try.checked }
namespace Rows
def none {H : Type} : Left H := { results := [], args := [] }

/-- 'prebendlaw10.RatePrices': WHATEVER THE INPUT: true; the input reads as it did. -/
def ratePricesSpec : ChangeSpec := { name := "ratePrices", fn := fun _ => fun
  | [d1, d2, d3] => { results := [.lit (.bool true)], args := [d1, d2, d3] }
  | _ => none }
def ratePricesRow : OpenClaim := { program := "ytpmllbecgiedeaa", sum := "141f9bdf38f45662e4baeba055379a98d5d07c44d6abaa58cc4c54c5ecf6f153", func := "prebend/prebendlaw10.RatePrices", spec := "ratePrices", apart := false }
def RatePricesSaid : Prop := ratePricesRow.holds Try.pinned (OpenSpec.ofChange ratePricesSpec)

/-- ITS FALSE NEIGHBOUR: 'it returns false'. Refute it at one input. -/
def ratePricesWrong : ChangeSpec := { name := "ratePrices", fn := fun _ => fun
  | [d1, d2, d3] => { results := [.lit (.bool false)], args := [d1, d2, d3] }
  | _ => none }
def RatePricesWrongFalsely : Prop := ratePricesRow.holds Try.pinned (OpenSpec.ofChange ratePricesWrong)

/-- 'prebendlaw10.RateSets': WHATEVER THE INPUT: true; the input reads as it did. -/
def rateSetsSpec : ChangeSpec := { name := "rateSets", fn := fun _ => fun
  | [d1, d2, d3, d4] => { results := [.lit (.bool true)], args := [d1, d2, d3, d4] }
  | _ => none }
def rateSetsRow : OpenClaim := { program := "ytpmllbecgiedeaa", sum := "141f9bdf38f45662e4baeba055379a98d5d07c44d6abaa58cc4c54c5ecf6f153", func := "prebend/prebendlaw10.RateSets", spec := "rateSets", apart := false }
def RateSetsSaid : Prop := rateSetsRow.holds Try.pinned (OpenSpec.ofChange rateSetsSpec)

/-- ITS FALSE NEIGHBOUR: 'it returns false'. Refute it at one input. -/
def rateSetsWrong : ChangeSpec := { name := "rateSets", fn := fun _ => fun
  | [d1, d2, d3, d4] => { results := [.lit (.bool false)], args := [d1, d2, d3, d4] }
  | _ => none }
def RateSetsWrongFalsely : Prop := rateSetsRow.holds Try.pinned (OpenSpec.ofChange rateSetsWrong)

/-- 'prebendlaw10.RateStays': WHATEVER THE INPUT: true; the input reads as it did. -/
def rateStaysSpec : ChangeSpec := { name := "rateStays", fn := fun _ => fun
  | [d1, d2, d3, d4] => { results := [.lit (.bool true)], args := [d1, d2, d3, d4] }
  | _ => none }
def rateStaysRow : OpenClaim := { program := "ytpmllbecgiedeaa", sum := "141f9bdf38f45662e4baeba055379a98d5d07c44d6abaa58cc4c54c5ecf6f153", func := "prebend/prebendlaw10.RateStays", spec := "rateStays", apart := false }
def RateStaysSaid : Prop := rateStaysRow.holds Try.pinned (OpenSpec.ofChange rateStaysSpec)

/-- ITS FALSE NEIGHBOUR: 'it returns false'. Refute it at one input. -/
def rateStaysWrong : ChangeSpec := { name := "rateStays", fn := fun _ => fun
  | [d1, d2, d3, d4] => { results := [.lit (.bool false)], args := [d1, d2, d3, d4] }
  | _ => none }
def RateStaysWrongFalsely : Prop := rateStaysRow.holds Try.pinned (OpenSpec.ofChange rateStaysWrong)

/- THE SECOND FORM. 'bulk': how many values and letters a reading holds, each counted each time it is reached (what is shared counts as often as it is met; a slice's spare places count too). A statement '..UptoSaid' is the law's where the arguments, and the package variables that the reading takes, are together of bulk at most 1048576: NARROWER than '..Said'. Prove '..Said' where nothing that the law and all that it calls make is longer than what came in: it says more and counts as full. Else prove '..UptoSaid'. A law counts once. -/
mutual
def uptoBulk {H : Type} : DataW H → Nat
  | .lit (.string bytes) => bytes.length + 1
  | .lit _ => 1
  | .nil => 1
  | .ptr d => uptoBulk d + 1
  | .slice elems spare => uptoBulkAll elems + uptoBulkAll spare + 1
  | .agg parts => uptoBulkAll parts + 1
  | .iface _ d => uptoBulk d + 1
  | .map entries => uptoBulkEntries entries + 1
  | .held _ => 1
def uptoBulkAll {H : Type} : List (DataW H) → Nat
  | [] => 0
  | d :: r => uptoBulk d + uptoBulkAll r
def uptoBulkEntries {H : Type} : List (Lit × DataW H) → Nat
  | [] => 0
  | x :: r => uptoBulkEntry x + uptoBulkEntries r
def uptoBulkEntry {H : Type} : Lit × DataW H → Nat
  | (.string bytes, d) => bytes.length + uptoBulk d + 1
  | (_, d) => uptoBulk d + 1
 end
def uptoSmall : (H : Type) → List (DataW H) → Bool := fun _ ds => decide (uptoBulkAll ds ≤ 1048576)
def OpenSpec.upto (s : _root_.Go.ChangeSpec) : _root_.Go.OpenSpec := { _root_.Go.OpenSpec.ofChange s with cond := some uptoSmall }

/-- 'prebendlaw10.RatePrices', WHERE WHAT IT READS IS OF BULK AT MOST 1048576: true; the input reads as it did. -/
def ratePricesUptoRow : OpenClaim := { program := "ytpmllbecgiedeaa", sum := "141f9bdf38f45662e4baeba055379a98d5d07c44d6abaa58cc4c54c5ecf6f153", func := "prebend/prebendlaw10.RatePrices", spec := "ratePrices", apart := false, narrowed := true }
def RatePricesUptoSaid : Prop := ratePricesUptoRow.holds Try.pinned (OpenSpec.upto ratePricesSpec)

/-- 'prebendlaw10.RateSets', WHERE WHAT IT READS IS OF BULK AT MOST 1048576: true; the input reads as it did. -/
def rateSetsUptoRow : OpenClaim := { program := "ytpmllbecgiedeaa", sum := "141f9bdf38f45662e4baeba055379a98d5d07c44d6abaa58cc4c54c5ecf6f153", func := "prebend/prebendlaw10.RateSets", spec := "rateSets", apart := false, narrowed := true }
def RateSetsUptoSaid : Prop := rateSetsUptoRow.holds Try.pinned (OpenSpec.upto rateSetsSpec)

/-- 'prebendlaw10.RateStays', WHERE WHAT IT READS IS OF BULK AT MOST 1048576: true; the input reads as it did. -/
def rateStaysUptoRow : OpenClaim := { program := "ytpmllbecgiedeaa", sum := "141f9bdf38f45662e4baeba055379a98d5d07c44d6abaa58cc4c54c5ecf6f153", func := "prebend/prebendlaw10.RateStays", spec := "rateStays", apart := false, narrowed := true }
def RateStaysUptoSaid : Prop := rateStaysUptoRow.holds Try.pinned (OpenSpec.upto rateStaysSpec)

end Rows
end Go.Proofs.Ytpmllbecgiedeaa
