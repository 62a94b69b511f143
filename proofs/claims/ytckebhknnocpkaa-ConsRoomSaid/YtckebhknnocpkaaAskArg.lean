/- Asks as arguments. -/
import Derived.Test.YtckebhknnocpkaaAskMem
import Derived.Test.YtckebhknnocpkaaOpens
namespace Go.Proofs.Ytckebhknnocpkaa.Ord
set_option maxRecDepth 100000
open Go.RowKit
open Go.Sort
open Kit
open Tre (Lst inI lst_keep lst_take lst_at lst_new lst_none i64_wf cells_int)
set_option linter.unusedVariables false
variable {w w' : World}

def RAq (cs : List Value) (x : Aq) : Prop := cs = encQ x
theorem cells_ask : Try.prog.cellsOf 38 = 2 := by kernel_rfl
theorem opens_ask : Opn.Opens Try.prog w 38 RAq := by
  refine Opn.opens_struct Try.underlying38 fun cs hlen hf => ?_
  rw [cells_ask] at hlen
  match cs, hlen with
  | [c0, c1], _ =>
    obtain ⟨k0, h0, w0⟩ := hf 0 _ rfl _ _ (Opn.opens_int Try.underlying3)
    obtain ⟨k1, h1, w1⟩ := hf 1 _ rfl _ _ (Opn.opens_int Try.underlying3)
    simp [cells_int] at h0 h1
    subst h0 h1
    exact ⟨⟨k0, k1⟩, rfl⟩
theorem opens_asks : Opn.Opens Try.prog w 23 (Opn.RSlice RAq 2 w) := Opn.opens_slice Try.underlying23 cells_ask (by omega) opens_ask
theorem asks_arg {a : Option Addr} {len cap : Nat} {l : List Aq} (h : Opn.RSlice RAq 2 w [.slice a len cap] l) : Asks w a len cap l := by
  obtain ⟨a', len', cap', he, hl, hc, hm, hn, hcs⟩ := h
  simp at he
  obtain ⟨rfl, rfl, rfl⟩ := he
  exact ⟨hl, hc, hm, hn, Kit.row_of_cells (fun _ _ h => h) hcs⟩
end Go.Proofs.Ytckebhknnocpkaa.Ord
