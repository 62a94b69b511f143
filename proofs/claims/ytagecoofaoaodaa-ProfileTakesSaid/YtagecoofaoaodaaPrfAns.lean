/- Profile: what the program must do. -/
import Derived.Test.YtagecoofaoaodaaPrfMem
namespace Go.Proofs.Ytagecoofaoaodaa.Prf
set_option maxRecDepth 100000
open Go.RowKit
open Go.Sort
open Kit
open Tre (Lst inI lst_keep lst_take lst_at lst_new lst_none i64_wf cells_int)
set_option linter.unusedVariables false
variable {w w' : World}

/-- WHAT THE PROGRAM'S PROFILES MUST DO. -/
structure Prog : Prop where
  new : ∀ (W : World) (now total : Int) (a : Option Addr) (n c : Nat) (l : List Bz), Tk now → Nd total → Busys W a n c l → (∀ b ∈ l, b.may) → n ≤ 500 →
    Calls Try.prog 8 #[.int .i64 now, .int .i64 total, .slice a n c] W fun e W' => ∃ a c p, e = .returned (.slice a p.length c) ∧ Steps W' a p.length c p ∧ IsP p (newF total l) now ∧ Below W.heap.size W W'
  at_ : ∀ (W : World) (t : Int) (a : Option Addr) (n c : Nat) (p : List St), Tk t → Steps W a n c p → Pf p →
    Calls Try.prog 14 #[.slice a n c, .int .i64 t] W fun e W' => e = .returned (.int .i64 (val p t)) ∧ Below W.heap.size W W'
  fit : ∀ (W : World) (nodes long : Int) (a : Option Addr) (n c : Nat) (p : List St), Nd nodes → Tk long → Steps W a n c p → Pf p →
    Calls Try.prog 11 #[.slice a n c, .int .i64 nodes, .int .i64 long] W fun e W' => ∃ m b, e = .returned (.tuple #[.int .i64 m, .bool b]) ∧ IsF p nodes long m b ∧ Below W.heap.size W W'
  take : ∀ (W : World) (at' long nodes : Int) (a : Option Addr) (n c : Nat) (p : List St), Tk at' → 0 ≤ long → Tk (at' + long) → Nd nodes → Steps W a n c p → Pf p →
    Calls Try.prog 16 #[.slice a n c, .int .i64 at', .int .i64 long, .int .i64 nodes] W fun e W' => ∃ a c q, e = .returned (.slice a q.length c) ∧ Steps W' a q.length c q ∧ (p = [] → q = []) ∧ (∀ s l, p = s :: l → IsP q (takeF p at' long nodes) s.tick) ∧ Below W.heap.size W W'
end Go.Proofs.Ytagecoofaoaodaa.Prf
