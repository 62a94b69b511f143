/- Cons: what may be; what the program must do. -/
import Derived.Test.YtckebhknnocpkaaConMath
import Derived.Test.YtckebhknnocpkaaEsyMem
import Derived.Test.YtckebhknnocpkaaIntMem
namespace Go.Proofs.Ytckebhknnocpkaa.Cns
set_option maxRecDepth 100000
open Go.RowKit
open Go.Sort
open Kit
open Tre (Lst inI lst_keep NewI)
open Prf (Bz Nd Busys)
open Esy (T9 okB Bools)
open Go.Proofs.Ytckebhknnocpkaa.Ord (Aq Asks)
set_option linter.unusedVariables false
variable {w w' : World}

def W2 (n : Int) : Prop := 0 ≤ n ∧ n ≤ 1048576
def okC (x : Aq) : Prop := Nd x.nodes ∧ W2 x.wall
def okD (b : Bz) : Prop := T9 b.till ∧ Nd b.nodes
/-- WHAT THE PROGRAM'S CONS MUST DO. -/
structure Prog : Prop where
  plan : ∀ (W : World) (now total : Int) (a : Option Addr) (n c : Nat) (l : List Bz) (a2 : Option Addr) (n2 c2 : Nat) (q : List Aq) (a3 : Option Addr) (n3 c3 : Nat) (rf : List Bool),
    T9 now → Nd total → Busys W a n c l → (∀ b ∈ l, okD b) → n ≤ 100 → Asks W a2 n2 c2 q → (∀ x ∈ q, okC x) → n2 ≤ 100 → Bools W a3 n3 c3 rf →
    Calls Try.prog 13 #[.int .i64 now, .int .i64 total, .slice a n c, .slice a2 n2 c2, .slice a3 n3 c3] W fun e W' => ∃ v, e = .returned v ∧ NewI W' W.heap.size v (plan now total l q rf) ∧ Below W.heap.size W W'
  next : ∀ (W : World) (now total : Int) (a : Option Addr) (n c : Nat) (l : List Bz) (a2 : Option Addr) (n2 c2 : Nat) (q : List Aq) (a3 : Option Addr) (n3 c3 : Nat) (rf : List Bool),
    T9 now → Nd total → Busys W a n c l → (∀ b ∈ l, okD b) → n ≤ 100 → Asks W a2 n2 c2 q → (∀ x ∈ q, okC x) → n2 ≤ 100 → Bools W a3 n3 c3 rf →
    Calls Try.prog 10 #[.int .i64 now, .int .i64 total, .slice a n c, .slice a2 n2 c2, .slice a3 n3 c3] W fun e W' => e = .returned (.tuple #[.int .i64 (nextI now total l q rf), .bool (nextB now total l q rf)]) ∧ Below W.heap.size W W'
end Go.Proofs.Ytckebhknnocpkaa.Cns
