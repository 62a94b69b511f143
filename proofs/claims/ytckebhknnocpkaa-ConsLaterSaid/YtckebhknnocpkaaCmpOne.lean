/- Common: the library's cmp.Compare at ints. -/
import Derived.Test.YtckebhknnocpkaaIntMem
import Derived.Test.YtckebhknnocpkaaRegLst
import Derived.Test.YtckebhknnocpkaaRegChn
import Derived.Test.YtckebhknnocpkaaRegSeeN
import Derived.Deep.MidRow
namespace Go.Proofs.Ytckebhknnocpkaa.Cmp
set_option maxRecDepth 100000
open Go.RowKit
open Go.Sort
open Kit
open Tre (encI encI_len encI_one)
set_option linter.unusedVariables false
variable {w w' : World}

def cmpI (a b : Int) : Int := if a < b then -1 else if b < a then 1 else 0
theorem isnan_any (W : World) (x : Int) : Calls Try.prog 29 #[.int .i64 x] W fun e w' => e = .returned (.bool false) ∧ W = w' := by
  go_enter Try.func29, Try.ntmps29
  go_wp2
  go_ret
  exact ⟨by simp, rfl⟩
theorem compare_any (x y : Int) (W : World) : Calls Try.prog 26 #[.int .i64 x, .int .i64 y] W fun e w' => e = .returned (.int .i64 (cmpI x y)) ∧ W = w' := by
  by_cases h1 : x < y
  · have HC := Lib.hid (show cmpI x y = -1 by unfold cmpI; rw [if_pos h1])
    go_enter Try.func26, Try.ntmps26
    go_wp2_with fail
    refine (isnan_any W x).mono ?_
    rintro e w1 ⟨rfl, rfl⟩
    go_wp2_with fail
    refine (isnan_any W y).mono ?_
    rintro e w1 ⟨rfl, rfl⟩
    go_wp2_with fail
    go_ret
    exact ⟨by rw [HC.out]; rfl, rfl⟩
  · by_cases h2 : y < x
    · have HC := Lib.hid (show cmpI x y = 1 by unfold cmpI; rw [if_neg h1, if_pos h2])
      go_enter Try.func26, Try.ntmps26
      go_wp2_with fail
      refine (isnan_any W x).mono ?_
      rintro e w1 ⟨rfl, rfl⟩
      go_wp2_with fail
      refine (isnan_any W y).mono ?_
      rintro e w1 ⟨rfl, rfl⟩
      go_wp2_with fail
      go_ret
      exact ⟨by rw [HC.out]; rfl, rfl⟩
    · have HC := Lib.hid (show cmpI x y = 0 by unfold cmpI; rw [if_neg h1, if_neg h2])
      go_enter Try.func26, Try.ntmps26
      go_wp2_with fail
      refine (isnan_any W x).mono ?_
      rintro e w1 ⟨rfl, rfl⟩
      go_wp2_with fail
      refine (isnan_any W y).mono ?_
      rintro e w1 ⟨rfl, rfl⟩
      go_wp2_with fail
      go_ret
      exact ⟨by rw [HC.out]; rfl, rfl⟩
end Go.Proofs.Ytckebhknnocpkaa.Cmp
