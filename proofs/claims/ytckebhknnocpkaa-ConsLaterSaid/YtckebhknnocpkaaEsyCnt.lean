/- Easy: the document's Counts, as it runs. -/
import Derived.Test.YtckebhknnocpkaaEsyMem
import Derived.Test.YtckebhknnocpkaaEsyNxM
import Derived.BigFrame
import Derived.BigQuiet
import Derived.Deep.DeepCutAuto
import Derived.Deep.CutBlock
import Derived.WalkLawsBesides
import Derived.LoopTactic
namespace Go.Proofs.Ytckebhknnocpkaa.Esy
set_option maxRecDepth 100000
open Go.RowKit
open Go.Sort
open Kit
open Tre (Lst inI lst_keep lst_take lst_at lst_new lst_none below_drewN' run_ld2)
open Prf (Bz newF Nd Tk Busys encZ encZ_len)
open Go.Proofs.Ytckebhknnocpkaa.Ord (Aq Asks encQ encQ_len ask_cells info_ask)
set_option linter.unusedVariables false
variable {w w' : World}

set_option maxHeartbeats 4000000 in
theorem rcounts_any (W : World) (total : Int) (a2 : Option Addr) (n2 c2 : Nat) (q : List Aq) (a3 : Option Addr) (n3 c3 : Nat) (rf : List Bool) (k : Nat) (x : Aq) (h : Asks W a2 n2 c2 q) (h3 : Bools W a3 n3 c3 rf) (hk : k < n2) (hx : q[k]? = some x) :
    Calls Try.prog 14 #[.int .i64 total, .slice a2 n2 c2, .slice a3 n3 c3, .int .i64 (k : Nat)] W fun e W' => e = .returned (.bool (countsB total rf k x)) ∧ Below W.heap.size W W' := by
  obtain ⟨hkl, e⟩ := List.getElem?_eq_some_iff.1 hx
  obtain ⟨b2, o2, rfl⟩ := lst_at h (by omega)
  obtain ⟨q0, -⟩ := ask_cells h hkl
  rw [e] at q0
  have h3l := h3.len
  obtain ⟨xn, hxn⟩ : ∃ xn, xn = x.nodes := ⟨_, rfl⟩
  rw [← hxn] at q0
  by_cases hk3 : k < n3
  · have hk3i : (k : Int) < (n3 : Int) := by omega
    obtain ⟨b3, o3, rfl⟩ := lst_at h3 (by omega)
    have r0 := bool_cell h3 (show k < rf.length by omega)
    have hgd : rf.getD k false = rf[k]'(by omega) := by rw [List.getD_eq_getElem?_getD, List.getElem?_eq_getElem (by omega)]; rfl
    rw [← hgd] at r0
    have HC := Lib.hid (show countsB total rf k x = (!(rf.getD k false) && decide (xn ≤ total)) by rw [hxn]; rfl)
    clear hgd hxn e hkl hx h h3 h3l
    generalize rf.getD k false = r at *
    cases r
    · by_cases hle : xn ≤ total
      · have HA := Lib.hid (show countsB total rf k x = true by rw [HC.out]; simpa using hle)
        go_enter Try.func14, Try.ntmps14
        go_wp2_with fail
        go_ret
        exact ⟨by rw [HA.out]; first | rfl | simp [hle], Below.refl _ _⟩
      · have HA := Lib.hid (show countsB total rf k x = false by rw [HC.out]; simpa using hle)
        have hlf : decide (xn ≤ total) = false := decide_eq_false hle
        go_enter Try.func14, Try.ntmps14
        go_wp2_with fail
        go_ret
        exact ⟨by rw [HA.out]; first | rfl | simp [hlf], Below.refl _ _⟩
    · have HA := Lib.hid (show countsB total rf k x = false by rw [HC.out]; rfl)
      go_enter Try.func14, Try.ntmps14
      go_wp2_with fail
      go_ret
      exact ⟨by rw [HA.out]; rfl, Below.refl _ _⟩
  · have hk3i : ¬ (k : Int) < (n3 : Int) := by omega
    have hgd : rf.getD k false = false := by rw [List.getD_eq_getElem?_getD, List.getElem?_eq_none (by omega)]; rfl
    have HC := Lib.hid (show countsB total rf k x = decide (xn ≤ total) by unfold countsB; rw [hgd, hxn]; rfl)
    clear hgd hxn e hkl hx h h3 h3l
    by_cases hle : xn ≤ total
    · have HA := Lib.hid (show countsB total rf k x = true by rw [HC.out]; simpa using hle)
      go_enter Try.func14, Try.ntmps14
      go_wp2_with fail
      go_ret
      exact ⟨by rw [HA.out]; first | rfl | simp [hle], Below.refl _ _⟩
    · have HA := Lib.hid (show countsB total rf k x = false by rw [HC.out]; simpa using hle)
      have hlf : decide (xn ≤ total) = false := decide_eq_false hle
      go_enter Try.func14, Try.ntmps14
      go_wp2_with fail
      go_ret
      exact ⟨by rw [HA.out]; first | rfl | simp [hlf], Below.refl _ _⟩
end Go.Proofs.Ytckebhknnocpkaa.Esy
