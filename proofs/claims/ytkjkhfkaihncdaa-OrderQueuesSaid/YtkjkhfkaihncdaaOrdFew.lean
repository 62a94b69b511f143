/- Order: not too many (the laws' own few). -/
import Derived.Test.YtkjkhfkaihncdaaOrdMem
namespace Go.Proofs.Ytkjkhfkaihncdaa.Ord
set_option maxRecDepth 100000
open Go.RowKit
open Go.Sort
open Kit
open Tre (Lst lst_take)
open Job (Jb Jv Jobs encJ encJ_len job_cell)
set_option linter.unusedVariables false

theorem run_40 (a : Option Addr) (n c : Nat) (h1 : 40 ≤ n) (h2 : n ≤ c) (w : World) : (Instr.sliceAt 22 (.slice a n c) none (some (.int .i64 40)) none).run Try.prog w = .ok (.slice a 40 c) w := by
  simp [go_sem]
  intro h; omega
theorem few_any (a : Option Addr) (n c m : Nat) (h1 : n ≤ c) (hx : c ≤ maxLen) (hm : m = min n 40) (w : World) :
    Calls Try.prog 6 #[.slice a n c] w fun e w' => e = .returned (.slice a m c) ∧ w = w' := by
  have hb1 : n ≤ 9223372036854775807 := by unfold maxLen at hx; omega
  have HM := Lib.hid hm
  clear hx hm
  by_cases g1 : 40 < n
  · have g1i : (40 : Int) < n := by omega
    have r1 := run_40 a n c (by omega) h1 w
    have e1 : Hid (m = 40) := Lib.hid (by have := HM.out; omega)
    clear g1
    go_enter Try.func6, Try.ntmps6
    go_wp2_with fail
    go_ret
    exact ⟨by rw [e1.out]; rfl, rfl⟩
  · have g1i : ¬ (40 : Int) < n := by omega
    have e1 : Hid (m = n) := Lib.hid (by have := HM.out; omega)
    clear g1
    go_enter Try.func6, Try.ntmps6
    go_wp2_with fail
    go_ret
    exact ⟨by rw [e1.out]; rfl, rfl⟩
end Go.Proofs.Ytkjkhfkaihncdaa.Ord
