/- Octet: a Reader whose blocks are known, beside others that change. -/
import Derived.Test.YtpmpigglekgfnaaOctTxt
import Derived.Test.YtpmpigglekgfnaaOctEnd
import Derived.Test.YtpmpigglekgfnaaOctNew
import Derived.Test.YtpmpigglekgfnaaFoot
namespace Go.Proofs.Ytpmpigglekgfnaa.Oct
open Go.RowKit
open Go.Sort
open Kit
open Foot
set_option linter.unusedVariables false
variable {w w' : World}

theorem rdrs_in {S : Nat → Prop} {p : Nat} {s : RS} (h : RdrS S w p s) : S p := by
  obtain ⟨a, cap, _, _, _, _, _, _, _, _, h6, _⟩ := h
  exact h6
/-- A Reader that was just made: all of it is below what comes. -/
theorem rdrs_fix {B p : Nat} {s : RS} (h : Rdr B w p s) : RdrS (fun k => B ≤ k ∧ k < w.heap.size) w p s := by
  have hp := rdr_lt h
  obtain ⟨a, cap, h0, h1, f0, f1, h2, h3, h4, h5, h6, h7⟩ := h
  exact ⟨a, cap, h0, h1, f0, f1, h2, h3, h4, h5, ⟨h6, hp⟩, fun q hq => ⟨⟨(h7 q hq).1, (h7 q hq).2.2⟩, (h7 q hq).2⟩⟩
theorem rdrs_chg {S F : Nat → Prop} {p : Nat} {s : RS} (h : RdrS S w p s) (hC : Chg F w w') (hF : ∀ k, F k → ¬ S k) : RdrS S w' p s := by
  have hp := rdr_lt h
  obtain ⟨a, cap, h0, h1, f0, f1, h2, h3, h4, h5, h6, h7⟩ := h
  have hk := hC.block p hp (fun hf => hF _ hf h6)
  refine ⟨a, cap, cell_chg hC h0 (fun hf => hF _ hf h6), cell_chg hC h1 (fun hf => hF _ hf h6), (frozen_of_block hk).trans f0, (frozen_of_block hk).trans f1, h2, h3, h4, ?_, h6, fun q hq => ⟨(h7 q hq).1, (h7 q hq).2.1, Nat.lt_of_lt_of_le (h7 q hq).2.2 hC.size⟩⟩
  rcases h5 with e | ⟨b, o, e, hr⟩
  · exact .inl e
  · subst e
    exact row_chg encB_len hC (.inr ⟨b, o, rfl, hr⟩) fun hf => hF _ hf (h7 _ rfl).1
end Go.Proofs.Ytpmpigglekgfnaa.Oct
