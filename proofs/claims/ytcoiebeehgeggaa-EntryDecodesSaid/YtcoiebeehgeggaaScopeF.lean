/- A scope with one label, that is jumped to at most once, and ahead only. -/
import Derived.Test.YtcoiebeehgeggaaScopes
namespace Go.Proofs.Ytcoiebeehgeggaa.Scp
variable {P : Program} {a : Act} {w : World} {Q : Exit → Act → World → Prop}

/-- No jump at all. -/
theorem wp_never {c : Code} (first : c.wp P (Jumps (fun _ _ _ => False) Q) a w) : (Code.scope c).wp P Q a w :=
  wp_labels (fun _ _ _ => False) (fun _ _ _ => 0) first fun _ _ _ h => h.elim
/-- Jumps from several places. -/
theorem wp_once {c r0 : Code} (J0 : Act → World → Prop) (h0 : findLabel c 0 = some (Code.skip.seq r0)) (first : c.wp P (Jumps (fun l a w => l = 0 ∧ J0 a w) Q) a w)
    (pass : ∀ a w, J0 a w → r0.wp P (Jumps (fun _ _ _ => False) Q) a w) : (Code.scope c).wp P Q a w := by
  refine wp_labels (fun l a w => l = 0 ∧ J0 a w) (fun _ _ _ => 0) first fun l a w h => ?_
  obtain ⟨rfl, hj⟩ := h
  exact ⟨_, h0, wp_seq (wp_skip (Code.wp_mono (jumps_mono fun _ _ _ h => h.elim) (pass a w hj)))⟩
/-- A jump ahead: the label's code is walked from there. -/
theorem wp_ahead {c r0 : Code} (h0 : findLabel c 0 = some (Code.skip.seq r0)) (first : c.wp P (Jumps (fun l a w => l = 0 ∧ r0.wp P (Jumps (fun _ _ _ => False) Q) a w) Q) a w) : (Code.scope c).wp P Q a w :=
  wp_once (fun a w => r0.wp P (Jumps (fun _ _ _ => False) Q) a w) h0 first fun _ _ h => h
end Go.Proofs.Ytcoiebeehgeggaa.Scp
