/- Asks in memory (order, easy and all that plan). -/
import Derived.Test.YtckebhknnocpkaaLst
namespace Go.Proofs.Ytckebhknnocpkaa.Ord
set_option maxRecDepth 100000
open Go.RowKit
open Go.Sort
open Kit
open Tre (Lst inI lst_keep lst_take lst_at lst_new lst_none i64_wf cells_int)
set_option linter.unusedVariables false
variable {w w' : World}

structure Aq where
  nodes : Int
  wall : Int
def encQ (x : Aq) : List Value := [.int .i64 x.nodes, .int .i64 x.wall]
theorem encQ_len (x : Aq) : (encQ x).length = 2 := rfl
abbrev Asks := Lst encQ 2
theorem ask_cells {b o n c k : Nat} {l : List Aq} (h : Asks w (some ⟨b, o, none⟩) n c l) (hk : k < l.length) :
    w.cell? ⟨b, o + k * 2, none⟩ = some (.int .i64 l[k].nodes) ∧ w.cell? ⟨b, o + k * 2 + 1, none⟩ = some (.int .i64 l[k].wall) :=
  ⟨row_cell h.row hk rfl (i := 0) (by omega), row_cell h.row hk rfl (i := 1) (by omega)⟩
theorem info_ask : (Try.prog.info? 38).map (fun i => (i.zero, i.size, i.bytes)) = some (some (.agg #[.int .i64 0, .int .i64 0]), 2, 16) := by kernel_rfl
end Go.Proofs.Ytckebhknnocpkaa.Ord
