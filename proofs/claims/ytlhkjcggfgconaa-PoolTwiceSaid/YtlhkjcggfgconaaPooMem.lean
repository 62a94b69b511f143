/- Pool: what the program must do. -/
import Derived.Test.YtlhkjcggfgconaaPooMath
namespace Go.Proofs.Ytlhkjcggfgconaa.Poo
set_option maxRecDepth 100000
open Go.RowKit
open Go.Sort
open Kit
open Tre (inI)
set_option linter.unusedVariables false

/-- WHAT THE PROGRAM'S POOL MUST DO. -/
structure Prog : Prop where
  all : ∀ (W : World) (n : Int), inI n → Calls Try.prog 11 #[.int .i64 n] W fun e W' => e = .returned (.int .i64 (allN n : Nat)) ∧ Below W.heap.size W W'
  count : ∀ (W : World) (m : Int), inI m → Calls Try.prog 9 #[.int .i64 m] W fun e W' => e = .returned (.int .i64 (cnt (lo m) : Nat)) ∧ Below W.heap.size W W'
  take : ∀ (W : World) (f n : Int), inI f → inI n → Calls Try.prog 6 #[.int .i64 f, .int .i64 n] W fun e W' => e = .returned (.tuple #[.int .i64 (takeV (lo f) n : Nat), .bool (takeOk (lo f) n)]) ∧ Below W.heap.size W W'
end Go.Proofs.Ytlhkjcggfgconaa.Poo
