/- Easy: who is refused, in memory; what the program must do. -/
import Derived.Test.YtckebhknnocpkaaEsyMath
import Derived.Test.YtckebhknnocpkaaPrfMem
import Derived.Test.YtckebhknnocpkaaOpens
namespace Go.Proofs.Ytckebhknnocpkaa.Esy
set_option maxRecDepth 100000
open Go.RowKit
open Go.Sort
open Kit
open Tre (Lst inI lst_keep lst_take lst_at lst_new lst_none i64_wf cells_int)
open Prf (Bz busyN newF Nd Tk Busys)
open Go.Proofs.Ytckebhknnocpkaa.Ord (Aq Asks)
set_option linter.unusedVariables false
variable {w w' : World}

def encO (b : Bool) : List Value := [.bool b]
theorem encO_len (b : Bool) : (encO b).length = 1 := rfl
theorem encO_one (x : Bool) : ∀ u ∈ encO x, u.oneCell' = true := by
  intro u hu
  simp [encO] at hu
  subst hu; rfl
abbrev Bools := Lst encO 1
theorem bool_cell {b o n c k : Nat} {l : List Bool} (h : Bools w (some ⟨b, o, none⟩) n c l) (hk : k < l.length) : w.cell? ⟨b, o + k, none⟩ = some (.bool l[k]) := by
  have := row_cell h.row hk rfl (i := 0) (by omega)
  rwa [Nat.mul_one, Nat.add_zero] at this
/-- Up to 2^49: a tick and a walltime are a tick still. -/
def T9 (t : Int) : Prop := 0 ≤ t ∧ t ≤ 562949953421312
def okB (b : Bz) : Prop := Tk b.till ∧ Nd b.nodes
def okQ (x : Aq) : Prop := Nd x.nodes ∧ T9 x.wall
end Go.Proofs.Ytckebhknnocpkaa.Esy
