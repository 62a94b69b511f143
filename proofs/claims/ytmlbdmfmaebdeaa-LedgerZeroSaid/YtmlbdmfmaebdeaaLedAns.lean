/- Ledger: what the program's ledger must do. -/
import Derived.Test.YtmlbdmfmaebdeaaLedMem
namespace Go.Proofs.Ytmlbdmfmaebdeaa.Led
set_option maxRecDepth 100000
open Go.RowKit
open Go.Sort
open Kit
open Mon
open Tre
set_option linter.unusedVariables false

/-- WHAT THE PROGRAM'S LEDGER MUST DO. -/
structure Prog : Prop where
  post : PostC
  amount : ∀ (W : World) (wd : Int) (a : Option Addr) (n c : Nat) (al : List Al) (k : Int), inI wd → Allocs W a n c al → (∀ x ∈ al, x.ok) → n ≤ 100 → inI k →
    Calls Try.prog 15 #[.int .i64 wd, .slice a n c, .int .i64 k] W fun e W' => e = .returned (.tuple #[.int .i64 (if 0 ≤ k ∧ k < 1 + 3 * (n : Int) then (flatN wd al).getD k.toNat 0 else 0), .int .i64 (if 0 ≤ k ∧ k < 1 + 3 * (n : Int) then 0 else 4)]) ∧ Below W.heap.size W W'
  total : ∀ (W : World) (wd : Int) (a : Option Addr) (n c : Nat) (al : List Al), inI wd → Allocs W a n c al → (∀ x ∈ al, x.ok) → n ≤ 100 →
    Calls Try.prog 16 #[.int .i64 wd, .slice a n c] W fun e W' => e = .returned (.tuple #[.int .i64 (addN (flatN wd al)), .int .i64 (addE (flatN wd al))]) ∧ Below W.heap.size W W'
end Go.Proofs.Ytmlbdmfmaebdeaa.Led
