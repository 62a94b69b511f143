/- Check: the landed Of. -/
import Derived.Test.YtfnkeknnlndjcaaChkCode
namespace Go.Proofs.Ytfnkeknnlndjcaa.Chk
open Go.RowKit
open Go.Sort
open Kit
open Oct
open Scp
set_option linter.unusedVariables false

set_option maxHeartbeats 1000000 in
theorem of_any (a : Option Addr) (len cap : Nat) (l : List UInt8) (w : World) (hl : l.length = len) (hm : len ≤ 4000) (hE : RowB w a l) :
    Calls Try.prog 27 #[.slice a len cap] w fun e w' => e = .returned (uv (sumB l)) ∧ Below w.heap.size w w' := by
  have HC := Lib.hid (from_any 0xffffffff#32 a len cap l w hl hm hE)
  clear hl hE
  go_enter Try.func27, Try.ntmps27
  go_wp2_with fail
  refine (start_any w).mono ?_
  rintro e w1 ⟨rfl, rfl⟩
  go_wp2_with fail
  refine HC.out.mono ?_
  rintro e w1 ⟨rfl, hb⟩
  go_wp2
  go_ret
  exact ⟨rfl, hb⟩
/-- With the sum as a value that is told. -/
theorem of_is (a : Option Addr) (len cap : Nat) (l : List UInt8) (s : BitVec 32) (w : World) (hl : l.length = len) (hm : len ≤ 4000) (hE : RowB w a l) (hs : sumB l = s) :
    Calls Try.prog 27 #[.slice a len cap] w fun e w' => e = .returned (uv s) ∧ Below w.heap.size w w' := by
  subst hs; exact of_any a len cap l w hl hm hE

end Go.Proofs.Ytfnkeknnlndjcaa.Chk
