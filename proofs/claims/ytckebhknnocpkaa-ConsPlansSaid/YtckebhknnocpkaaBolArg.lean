/- Easy: a list of yes and no as an argument. -/
import Derived.Test.YtckebhknnocpkaaEsyMem
import Derived.Test.YtckebhknnocpkaaAskArg
namespace Go.Proofs.Ytckebhknnocpkaa.Esy
set_option maxRecDepth 100000
open Go.RowKit
open Kit
set_option linter.unusedVariables false
variable {w : World}

def ROb (cs : List Value) (x : Bool) : Prop := cs = encO x
theorem opens_o : Opn.Opens Try.prog w 4 ROb := Opn.opens_bool Try.underlying4
theorem opens_bools : Opn.Opens Try.prog w 24 (Opn.RSlice ROb 1 w) := Opn.opens_slice Try.underlying24 (by kernel_rfl) (by omega) opens_o
theorem bools_arg {a : Option Addr} {len cap : Nat} {l : List Bool} (h : Opn.RSlice ROb 1 w [.slice a len cap] l) : Bools w a len cap l := by
  obtain ⟨a', len', cap', he, hl, hc, hm, hn, hcs⟩ := h
  simp at he
  obtain ⟨rfl, rfl, rfl⟩ := he
  exact ⟨hl, hc, hm, hn, Kit.row_of_cells (fun _ _ h => h) hcs⟩
end Go.Proofs.Ytckebhknnocpkaa.Esy
