/-
  No cell of these rows narrows 'for every input' (looked for: loops, veiled, ifaces, maps, wideKeys, modest, calm, conditions, laid).
  DERIVED. THE GIVEN ROWS OF THIS SEAT. 5 by the template 'for every input the law returns true; each argument reads behind the call as it read before'; 0 by the template 'total and deterministic' (their statements: YtjcndgopijpibaaGreatTotals.lean).
  GIVEN WITH THE SEED: the statements are not yours to turn. If you find one false, say at which input.
  Laid BY PROGRAM, IN A SANDBOX (cutbox-rows.mjs): the forced cells as the released guide's own fill.sh prints them over the translation f810f261bb9951cd… (all of the seat's roots in one cut). By AI agents, Wed Nov 11 2026. No macro, syntax, notation, axiom, sorry.
-/
import Derived.Test.YtjcndgopijpibaaGreatChecked
import GoSem.Claim
import GoSem.ClaimJoined
import GoSem.ClaimMapViews
import Derived.JoinedTies
import Derived.KernelRfl
namespace Go.Proofs.YtjcndgopijpibaaGreat
/- THE CELL 'sum', in the pinned program and in every row, IS THE sha256 OF THE DUMP (.gsa) THAT YtjcndgopijpibaaGreatProg.lean LOADS. Nothing in Lean hashes anything: it is a label: what it is worth is what the hold of that sum in a sandbox is worth. -/
noncomputable def Tryz.pinned : Pinned := { name := "ytjcndgopijpibaagreat", sum := "f810f261bb9951cd3852059e2766a6b78d52b58fcd6e269b46ff04c2bbcbe3f0", checked := Tryz.checked }
namespace Rows
def none {H : Type} : Left H := { results := [], args := [] }

/-- 'prebendlaw20.BookPlays': WHATEVER THE INPUT: true; the input reads as it did. -/
def bookPlaysSpec : ChangeSpec := { name := "bookPlays", fn := fun _ => fun
  | [d] => { results := [.lit (.bool true)], args := [d] }
  | _ => none }
def bookPlaysRow : OpenClaim := { program := "ytjcndgopijpibaagreat", sum := "f810f261bb9951cd3852059e2766a6b78d52b58fcd6e269b46ff04c2bbcbe3f0", func := "prebend/prebendlaw20.BookPlays", spec := "bookPlays", unfollowed := true, recurses := true, apart := false }
def BookPlaysSaid : Prop := bookPlaysRow.holds Tryz.pinned (OpenSpec.ofChange bookPlaysSpec)

/-- ITS FALSE NEIGHBOUR: 'it returns false'. Refute it at one input. -/
def bookPlaysWrong : ChangeSpec := { name := "bookPlays", fn := fun _ => fun
  | [d] => { results := [.lit (.bool false)], args := [d] }
  | _ => none }
def BookPlaysWrongFalsely : Prop := bookPlaysRow.holds Tryz.pinned (OpenSpec.ofChange bookPlaysWrong)

/-- 'prebendlaw20.BookBalances': WHATEVER THE INPUT: true; the input reads as it did. -/
def bookBalancesSpec : ChangeSpec := { name := "bookBalances", fn := fun _ => fun
  | [d1, d2] => { results := [.lit (.bool true)], args := [d1, d2] }
  | _ => none }
def bookBalancesRow : OpenClaim := { program := "ytjcndgopijpibaagreat", sum := "f810f261bb9951cd3852059e2766a6b78d52b58fcd6e269b46ff04c2bbcbe3f0", func := "prebend/prebendlaw20.BookBalances", spec := "bookBalances", unfollowed := true, recurses := true, apart := false }
def BookBalancesSaid : Prop := bookBalancesRow.holds Tryz.pinned (OpenSpec.ofChange bookBalancesSpec)

/-- ITS FALSE NEIGHBOUR: 'it returns false'. Refute it at one input. -/
def bookBalancesWrong : ChangeSpec := { name := "bookBalances", fn := fun _ => fun
  | [d1, d2] => { results := [.lit (.bool false)], args := [d1, d2] }
  | _ => none }
def BookBalancesWrongFalsely : Prop := bookBalancesRow.holds Tryz.pinned (OpenSpec.ofChange bookBalancesWrong)

/-- 'prebendlaw20.BookOnce': WHATEVER THE INPUT: true; the input reads as it did. -/
def bookOnceSpec : ChangeSpec := { name := "bookOnce", fn := fun _ => fun
  | [d1, d2] => { results := [.lit (.bool true)], args := [d1, d2] }
  | _ => none }
def bookOnceRow : OpenClaim := { program := "ytjcndgopijpibaagreat", sum := "f810f261bb9951cd3852059e2766a6b78d52b58fcd6e269b46ff04c2bbcbe3f0", func := "prebend/prebendlaw20.BookOnce", spec := "bookOnce", unfollowed := true, recurses := true, apart := false }
def BookOnceSaid : Prop := bookOnceRow.holds Tryz.pinned (OpenSpec.ofChange bookOnceSpec)

/-- ITS FALSE NEIGHBOUR: 'it returns false'. Refute it at one input. -/
def bookOnceWrong : ChangeSpec := { name := "bookOnce", fn := fun _ => fun
  | [d1, d2] => { results := [.lit (.bool false)], args := [d1, d2] }
  | _ => none }
def BookOnceWrongFalsely : Prop := bookOnceRow.holds Tryz.pinned (OpenSpec.ofChange bookOnceWrong)

/-- 'prebendlaw20.BookJobs': WHATEVER THE INPUT: true; the input reads as it did. -/
def bookJobsSpec : ChangeSpec := { name := "bookJobs", fn := fun _ => fun
  | [d1, d2, d3, d4] => { results := [.lit (.bool true)], args := [d1, d2, d3, d4] }
  | _ => none }
def bookJobsRow : OpenClaim := { program := "ytjcndgopijpibaagreat", sum := "f810f261bb9951cd3852059e2766a6b78d52b58fcd6e269b46ff04c2bbcbe3f0", func := "prebend/prebendlaw20.BookJobs", spec := "bookJobs", unfollowed := true, recurses := true, apart := false }
def BookJobsSaid : Prop := bookJobsRow.holds Tryz.pinned (OpenSpec.ofChange bookJobsSpec)

/-- ITS FALSE NEIGHBOUR: 'it returns false'. Refute it at one input. -/
def bookJobsWrong : ChangeSpec := { name := "bookJobs", fn := fun _ => fun
  | [d1, d2, d3, d4] => { results := [.lit (.bool false)], args := [d1, d2, d3, d4] }
  | _ => none }
def BookJobsWrongFalsely : Prop := bookJobsRow.holds Tryz.pinned (OpenSpec.ofChange bookJobsWrong)

/-- 'prebendlaw20.BookOwn': WHATEVER THE INPUT: true; the input reads as it did. -/
def bookOwnSpec : ChangeSpec := { name := "bookOwn", fn := fun _ => fun
  | [d1, d2] => { results := [.lit (.bool true)], args := [d1, d2] }
  | _ => none }
def bookOwnRow : OpenClaim := { program := "ytjcndgopijpibaagreat", sum := "f810f261bb9951cd3852059e2766a6b78d52b58fcd6e269b46ff04c2bbcbe3f0", func := "prebend/prebendlaw20.BookOwn", spec := "bookOwn", unfollowed := true, recurses := true, apart := false }
def BookOwnSaid : Prop := bookOwnRow.holds Tryz.pinned (OpenSpec.ofChange bookOwnSpec)

/-- ITS FALSE NEIGHBOUR: 'it returns false'. Refute it at one input. -/
def bookOwnWrong : ChangeSpec := { name := "bookOwn", fn := fun _ => fun
  | [d1, d2] => { results := [.lit (.bool false)], args := [d1, d2] }
  | _ => none }
def BookOwnWrongFalsely : Prop := bookOwnRow.holds Tryz.pinned (OpenSpec.ofChange bookOwnWrong)

/- THE SECOND FORM. 'bulk': how many values and letters a reading holds, each counted each time it is reached (what is shared counts as often as it is met; a slice's spare places count too). A statement '..UptoSaid' is the law's where the arguments, and the package variables that the reading takes, are together of bulk at most 1048576: NARROWER than '..Said'. Prove '..Said' where nothing that the law and all that it calls make is longer than what came in: it says more and counts as full. Else prove '..UptoSaid'. A law counts once. -/
mutual
def uptoBulk {H : Type} : DataW H → Nat
  | .lit (.string bytes) => bytes.length + 1
  | .lit _ => 1
  | .nil => 1
  | .ptr d => uptoBulk d + 1
  | .slice elems spare => uptoBulkAll elems + uptoBulkAll spare + 1
  | .agg parts => uptoBulkAll parts + 1
  | .iface _ d => uptoBulk d + 1
  | .map entries => uptoBulkEntries entries + 1
  | .held _ => 1
def uptoBulkAll {H : Type} : List (DataW H) → Nat
  | [] => 0
  | d :: r => uptoBulk d + uptoBulkAll r
def uptoBulkEntries {H : Type} : List (Lit × DataW H) → Nat
  | [] => 0
  | x :: r => uptoBulkEntry x + uptoBulkEntries r
def uptoBulkEntry {H : Type} : Lit × DataW H → Nat
  | (.string bytes, d) => bytes.length + uptoBulk d + 1
  | (_, d) => uptoBulk d + 1
 end
def uptoSmall : (H : Type) → List (DataW H) → Bool := fun _ ds => decide (uptoBulkAll ds ≤ 1048576)
def OpenSpec.upto (s : _root_.Go.ChangeSpec) : _root_.Go.OpenSpec := { _root_.Go.OpenSpec.ofChange s with cond := some uptoSmall }

/-- 'prebendlaw20.BookPlays', WHERE WHAT IT READS IS OF BULK AT MOST 1048576: true; the input reads as it did. -/
def bookPlaysUptoRow : OpenClaim := { program := "ytjcndgopijpibaagreat", sum := "f810f261bb9951cd3852059e2766a6b78d52b58fcd6e269b46ff04c2bbcbe3f0", func := "prebend/prebendlaw20.BookPlays", spec := "bookPlays", unfollowed := true, recurses := true, apart := false, narrowed := true }
def BookPlaysUptoSaid : Prop := bookPlaysUptoRow.holds Tryz.pinned (OpenSpec.upto bookPlaysSpec)

/-- 'prebendlaw20.BookBalances', WHERE WHAT IT READS IS OF BULK AT MOST 1048576: true; the input reads as it did. -/
def bookBalancesUptoRow : OpenClaim := { program := "ytjcndgopijpibaagreat", sum := "f810f261bb9951cd3852059e2766a6b78d52b58fcd6e269b46ff04c2bbcbe3f0", func := "prebend/prebendlaw20.BookBalances", spec := "bookBalances", unfollowed := true, recurses := true, apart := false, narrowed := true }
def BookBalancesUptoSaid : Prop := bookBalancesUptoRow.holds Tryz.pinned (OpenSpec.upto bookBalancesSpec)

/-- 'prebendlaw20.BookOnce', WHERE WHAT IT READS IS OF BULK AT MOST 1048576: true; the input reads as it did. -/
def bookOnceUptoRow : OpenClaim := { program := "ytjcndgopijpibaagreat", sum := "f810f261bb9951cd3852059e2766a6b78d52b58fcd6e269b46ff04c2bbcbe3f0", func := "prebend/prebendlaw20.BookOnce", spec := "bookOnce", unfollowed := true, recurses := true, apart := false, narrowed := true }
def BookOnceUptoSaid : Prop := bookOnceUptoRow.holds Tryz.pinned (OpenSpec.upto bookOnceSpec)

/-- 'prebendlaw20.BookJobs', WHERE WHAT IT READS IS OF BULK AT MOST 1048576: true; the input reads as it did. -/
def bookJobsUptoRow : OpenClaim := { program := "ytjcndgopijpibaagreat", sum := "f810f261bb9951cd3852059e2766a6b78d52b58fcd6e269b46ff04c2bbcbe3f0", func := "prebend/prebendlaw20.BookJobs", spec := "bookJobs", unfollowed := true, recurses := true, apart := false, narrowed := true }
def BookJobsUptoSaid : Prop := bookJobsUptoRow.holds Tryz.pinned (OpenSpec.upto bookJobsSpec)

/-- 'prebendlaw20.BookOwn', WHERE WHAT IT READS IS OF BULK AT MOST 1048576: true; the input reads as it did. -/
def bookOwnUptoRow : OpenClaim := { program := "ytjcndgopijpibaagreat", sum := "f810f261bb9951cd3852059e2766a6b78d52b58fcd6e269b46ff04c2bbcbe3f0", func := "prebend/prebendlaw20.BookOwn", spec := "bookOwn", unfollowed := true, recurses := true, apart := false, narrowed := true }
def BookOwnUptoSaid : Prop := bookOwnUptoRow.holds Tryz.pinned (OpenSpec.upto bookOwnSpec)

end Rows
end Go.Proofs.YtjcndgopijpibaaGreat
