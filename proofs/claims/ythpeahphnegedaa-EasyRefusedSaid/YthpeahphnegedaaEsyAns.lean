/- Easy: what the program must do. -/
import Derived.Test.YthpeahphnegedaaEsyMem
namespace Go.Proofs.Ythpeahphnegedaa.Esy
set_option maxRecDepth 100000
open Go.RowKit
open Go.Sort
open Kit
open Tre (Lst inI lst_keep lst_take lst_at lst_new lst_none i64_wf cells_int)
open Prf (Bz busyN newF Nd Tk Busys)
open Go.Proofs.Ythpeahphnegedaa.Ord (Aq Asks)
set_option linter.unusedVariables false
variable {w w' : World}

/-- WHAT THE PROGRAM'S EASY MUST DO. -/
structure Prog : Prop where
  next : ∀ (W : World) (now total : Int) (a : Option Addr) (n c : Nat) (l : List Bz) (a2 : Option Addr) (n2 c2 : Nat) (q : List Aq) (a3 : Option Addr) (n3 c3 : Nat) (rf : List Bool),
    T9 now → Nd total → Busys W a n c l → (∀ b ∈ l, okB b) → n ≤ 100 → Asks W a2 n2 c2 q → (∀ x ∈ q, okQ x) → n2 ≤ 100 → Bools W a3 n3 c3 rf →
    Calls Try.prog 9 #[.int .i64 now, .int .i64 total, .slice a n c, .slice a2 n2 c2, .slice a3 n3 c3] W fun e W' => e = .returned (.tuple #[.int .i64 (nextI now total l q rf), .bool (nextB now total l q rf)]) ∧ Below W.heap.size W W'
  shadow : ∀ (W : World) (now total : Int) (a : Option Addr) (n c : Nat) (l : List Bz) (nodes : Int), T9 now → Nd total → Busys W a n c l → (∀ b ∈ l, okB b) → n ≤ 100 → Nd nodes →
    Calls Try.prog 11 #[.int .i64 now, .int .i64 total, .slice a n c, .int .i64 nodes] W fun e W' => e = .returned (.tuple #[.int .i64 (shT now total l nodes), .int .i64 (shX now total l nodes), .bool (shB now total l nodes)]) ∧ Below W.heap.size W W'
end Go.Proofs.Ythpeahphnegedaa.Esy
