/- Ledger: not too many (the laws' few, some). -/
import Derived.Test.YtmlbdmfmaebdeaaLedMem
namespace Go.Proofs.Ytmlbdmfmaebdeaa.Led
set_option maxRecDepth 100000
open Go.RowKit
open Go.Sort
open Kit
open Mon
open Tre
set_option linter.unusedVariables false
variable {w w' : World}

/-! ### Not too many -/

theorem run_20a (a : Option Addr) (n c : Nat) (h1 : 20 ≤ n) (h2 : n ≤ c) (w : World) : (Instr.sliceAt 22 (.slice a n c) none (some (.int .i64 20)) none).run Try.prog w = .ok (.slice a 20 c) w := by
  simp [go_sem]
  intro h; omega
theorem run_70g (a : Option Addr) (n c : Nat) (h1 : 70 ≤ n) (h2 : n ≤ c) (w : World) : (Instr.sliceAt 23 (.slice a n c) none (some (.int .i64 70)) none).run Try.prog w = .ok (.slice a 70 c) w := by
  simp [go_sem]
  intro h; omega
theorem few_any (a : Option Addr) (n c m : Nat) (h1 : n ≤ c) (hx : c ≤ maxLen) (hm : m = min n 20) (w : World) :
    Calls Try.prog 9 #[.slice a n c] w fun e w' => e = .returned (.slice a m c) ∧ w = w' := by
  have hb1 : n ≤ 9223372036854775807 := by unfold maxLen at hx; omega
  clear hx
  by_cases g1 : 20 < n
  · have g1i : (20 : Int) < n := by omega
    have r1 := run_20a a n c (by omega) h1 w
    have e1 : Hid (m = 20) := Lib.hid (by omega)
    clear g1 hm
    go_enter Try.func9, Try.ntmps9
    go_wp2_with fail
    go_ret
    exact ⟨by rw [e1.out]; rfl, rfl⟩
  · have g1i : ¬ (20 : Int) < n := by omega
    have e1 : Hid (m = n) := Lib.hid (by omega)
    clear g1 hm
    go_enter Try.func9, Try.ntmps9
    go_wp2_with fail
    go_ret
    exact ⟨by rw [e1.out]; rfl, rfl⟩
theorem some_any (a : Option Addr) (n c m : Nat) (h1 : n ≤ c) (hx : c ≤ maxLen) (hm : m = min n 70) (w : World) :
    Calls Try.prog 10 #[.slice a n c] w fun e w' => e = .returned (.slice a m c) ∧ w = w' := by
  have hb1 : n ≤ 9223372036854775807 := by unfold maxLen at hx; omega
  clear hx
  by_cases g1 : 70 < n
  · have g1i : (70 : Int) < n := by omega
    have r1 := run_70g a n c (by omega) h1 w
    have e1 : Hid (m = 70) := Lib.hid (by omega)
    clear g1 hm
    go_enter Try.func10, Try.ntmps10
    go_wp2_with fail
    go_ret
    exact ⟨by rw [e1.out]; rfl, rfl⟩
  · have g1i : ¬ (70 : Int) < n := by omega
    have e1 : Hid (m = n) := Lib.hid (by omega)
    clear g1 hm
    go_enter Try.func10, Try.ntmps10
    go_wp2_with fail
    go_ret
    exact ⟨by rw [e1.out]; rfl, rfl⟩
end Go.Proofs.Ytmlbdmfmaebdeaa.Led
