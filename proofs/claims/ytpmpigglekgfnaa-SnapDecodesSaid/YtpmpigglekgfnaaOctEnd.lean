/- Octet: the end of a Reader. -/
import Derived.Test.YtpmpigglekgfnaaOctRdr
namespace Go.Proofs.Ytpmpigglekgfnaa.Oct
open Go.RowKit
open Go.Sort
open Kit
set_option linter.unusedVariables false

set_option maxHeartbeats 1000000 in
theorem end_rdr {S : Nat → Prop} {p : Nat} {s : RS} {w : World} (h : RdrS S w p s) :
    Calls Try.prog 31 #[.pointer (some ⟨p, 0, none⟩)] w fun e w' => e = .returned (.bool (decide (s = some []))) ∧ w = w' := by
  obtain ⟨a, cap, h0, h1, _⟩ := h
  cases s with
  | none =>
    simp only [Option.getD_none, Option.isNone_none, List.length_nil] at h0 h1
    go_enter Try.func31, Try.ntmps31
    go_wp2
    go_ret
    exact ⟨rfl, rfl⟩
  | some l =>
    simp only [Option.getD_some, Option.isNone_some] at h0 h1
    go_enter Try.func31, Try.ntmps31
    go_wp2
    go_ret
    refine ⟨ret_bool ?_, rfl⟩
    cases l <;> simp <;> omega

set_option maxHeartbeats 1000000 in
theorem end_nil (w : World) :
    Calls Try.prog 31 #[.pointer none] w fun e w' => e = .returned (.bool false) ∧ w = w' := by
  go_enter Try.func31, Try.ntmps31
  go_wp2
  go_ret
  exact ⟨rfl, rfl⟩

end Go.Proofs.Ytpmpigglekgfnaa.Oct
