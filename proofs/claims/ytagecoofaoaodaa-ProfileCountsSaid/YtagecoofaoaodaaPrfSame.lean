/- Profile: the document's Same, Held and Busy, as they run. -/
import Derived.Test.YtagecoofaoaodaaPrfMade
namespace Go.Proofs.Ytagecoofaoaodaa.Prf
set_option maxRecDepth 100000
open Go.RowKit
open Go.Sort
open Kit
open Tre (Lst inI lst_keep lst_take lst_at lst_new lst_none below_drewN' run_ld2)
set_option linter.unusedVariables false
variable {w w' : World}

set_option maxHeartbeats 4000000 in
theorem rsame_any (a1 a2 : Option Addr) (n c1 c2 : Nat) (l : List St) (w : World) (h1 : Steps w a1 n c1 l) (h2 : Steps w a2 n c2 l) :
    Calls Try.prog 13 #[.slice a1 n c1, .slice a2 n c2] w fun e w' => e = .returned (.bool true) ∧ Below w.heap.size w w' := by
  have hm1 : n ≤ 9223372036854775807 := by have := h1.cap; have := h1.max; unfold maxLen at this; omega
  have HL := Lib.hid (And.intro h1 (And.intro h2 h1.len))
  clear h1 h2
  go_enter Try.func13, Try.ntmps13
  go_wp2_with fail
  go_loopw [5] (fun i wr => ∃ k : Nat, k ≤ n ∧ i = .int .i64 (k : Nat) ∧ Below w.heap.size w wr) (fun i _ => n - (intOf i).toNat)
  case atStart => exact ⟨0, Nat.zero_le _, rfl, Below.refl _ _⟩
  case round =>
    obtain ⟨k, hk, rfl, hb⟩ := hrel
    have HB := Lib.hid hb
    clear hb
    by_cases hlt : k < n
    · have hkl : k < l.length := by rw [HL.out.2.2]; exact hlt
      obtain ⟨b1, o1, rfl⟩ := lst_at HL.out.1 (by omega)
      obtain ⟨b2, o2, rfl⟩ := lst_at HL.out.2.1 (by omega)
      obtain ⟨p0, p1⟩ := step_cells (lst_keep encS_len HL.out.1 HB.out) hkl
      obtain ⟨q0, q1⟩ := step_cells (lst_keep encS_len HL.out.2.1 HB.out) hkl
      generalize l[k] = x at *
      obtain ⟨x0, x1⟩ := x
      simp only at p0 p1 q0 q1
      go_wp2_with fail
      go_quiet (fail)
      go_wp2_with fail
      go_roundw
      case rel => exact ⟨k + 1, by omega, by go_num, below_keep HB.out (below_drewN' _ _)⟩
      case measure => simp [intOf]; omega
    · obtain rfl : k = n := by omega
      go_wp2_with fail
      go_ret
      exact ⟨rfl, HB.out⟩

/-! ### Held -/

end Go.Proofs.Ytagecoofaoaodaa.Prf
