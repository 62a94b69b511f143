/- Order: asks in memory; what the program must do. -/
import Derived.Test.YtkjkhfkaihncdaaOrdLes
import Derived.Test.YtkjkhfkaihncdaaIntMem
import Derived.Test.YtkjkhfkaihncdaaAskMem
namespace Go.Proofs.Ytkjkhfkaihncdaa.Ord
set_option maxRecDepth 100000
open Go.RowKit
open Go.Sort
open Kit
open Tre (Lst inI lst_keep lst_take lst_at lst_new lst_none i64_wf cells_int IntsL NewI)
open Job (Jb Jv Jobs encJ encJ_len job_cell)
set_option linter.unusedVariables false
variable {w w' : World}

def NewQ (w : World) (base : Nat) (v : Value) (l : List Aq) : Prop := ∃ a c, v = .slice a l.length c ∧ Asks w a l.length c l ∧ ∀ q, a = some q → base ≤ q.block ∧ q.block < w.heap.size


def askOf (l : List Jb) (m : Nat) : Aq := match l[m]? with | some x => ⟨x.nodes, x.wall⟩ | none => ⟨0, 0⟩
def asksOf (l : List Jb) : List Aq := (ord l).map (askOf l)
theorem places_len (l : List Jb) : (places l).length ≤ l.length := by
  unfold places ord
  rw [List.length_map, ord_len]
  exact q_le l _
theorem asks_len (l : List Jb) : (asksOf l).length = (places l).length := by unfold asksOf places; rw [List.length_map, List.length_map]
/-- WHAT THE PROGRAM'S ORDER MUST DO. -/
structure Prog : Prop where
  order : ∀ (W : World) (a : Option Addr) (n c : Nat) (l : List Jv), Jobs W a n c l → (∀ x ∈ l, x.In W) → (∀ x ∈ l, x.t.ok) → n ≤ 40 →
    Calls Try.prog 11 #[.slice a n c] W fun e W' => ∃ v, e = .returned v ∧ NewI W' W.heap.size v (places (ts l)) ∧ Below W.heap.size W W'
  asks : ∀ (W : World) (a : Option Addr) (n c : Nat) (l : List Jv), Jobs W a n c l → (∀ x ∈ l, x.In W) → (∀ x ∈ l, x.t.ok) → n ≤ 40 →
    Calls Try.prog 8 #[.slice a n c] W fun e W' => ∃ v, e = .returned v ∧ NewQ W' W.heap.size v (asksOf (ts l)) ∧ Below W.heap.size W W'
end Go.Proofs.Ytkjkhfkaihncdaa.Ord
