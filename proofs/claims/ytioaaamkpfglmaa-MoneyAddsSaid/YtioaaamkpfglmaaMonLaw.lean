/- Money: what the laws share. -/
import Derived.Test.YtioaaamkpfglmaaMonCost
import Derived.Test.YtioaaamkpfglmaaMonRef
namespace Go.Proofs.Ytioaaamkpfglmaa.Mon
open Go.RowKit

theorem elems_row {w : World} {a : Option Addr} {len cap : Nat} {zs : List Int} (h : (a = none ∧ len = 0 ∧ cap = 0 ∧ zs = []) ∨
    ∃ x, a = some x ∧ len ≤ cap ∧ cap ≤ maxLen ∧ zs.length = cap ∧ (∀ i, i < zs.length → w.cell? (x.add i) = some (.int .i64 (zs.getD i 0))) ∧ ∀ n ∈ zs, (Lit.int .i64 n).wf = true) (n : Nat) (hn : n ≤ len) :
    Elems w a (zs.take n) ∧ (zs.take n).length = n ∧ len ≤ cap ∧ cap ≤ maxLen := by
  rcases h with ⟨rfl, rfl, rfl, rfl⟩ | ⟨x, rfl, hl, hm, hz, hcell, _⟩
  · refine ⟨.inl (by simp), by simp; omega, Nat.le_refl _, by unfold maxLen; omega⟩
  · refine ⟨?_, by rw [List.length_take]; omega, hl, hm⟩
    by_cases h0 : n = 0
    · exact .inl (by simp [h0])
    · obtain ⟨b, off, spot⟩ := x
      have hc := hcell 0 (by omega)
      have hspot : spot = none := by simpa [Addr.add] using World.cell?_spot hc
      subst hspot
      refine .inr ⟨b, off, rfl, fun j hj => ?_⟩
      rw [List.length_take] at hj
      have h := hcell j (by omega)
      have e : (⟨b, off, none⟩ : Addr).add j = ⟨b, off + j, none⟩ := by
        unfold Addr.add; split
        · subst_vars; rfl
        · rfl
      rw [e] at h
      rw [h]
      simp [List.getD, show j < n by omega]

end Go.Proofs.Ytioaaamkpfglmaa.Mon
