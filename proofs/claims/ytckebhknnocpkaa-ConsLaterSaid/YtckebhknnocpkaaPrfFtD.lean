/- Profile, the landed: Fit by one walk through the steps (mathematics). -/
import Derived.Test.YtckebhknnocpkaaPrfFit
namespace Go.Proofs.Ytckebhknnocpkaa.Prf
set_option linter.unusedVariables false

theorem valA_ge {nodes t : Int} : ∀ (B : List St) (f : Int), nodes ≤ f → (∀ y ∈ B, y.tick ≤ t → nodes ≤ y.free) → nodes ≤ valA f B t
  | [], f, h, _ => h
  | b :: B, f, h, hB => by
    rw [valA_cons]
    by_cases hb : b.tick ≤ t
    · rw [if_pos hb]
      exact valA_ge B b.free (hB b (List.mem_cons_self ..) hb) fun y hy => hB y (List.mem_cons_of_mem _ hy)
    · rw [if_neg hb]
      exact valA_ge B f h fun y hy => hB y (List.mem_cons_of_mem _ hy)
/-- Where the walk stands: from which step on all have so many, if the last one has. -/
def FitS (p : List St) (nodes L : Int) (k : Nat) (start : Int) (b : Bool) : Prop :=
  (b = false ∧ start = 0 ∧ ∀ x ∈ p.take k, ¬ fitsAt p nodes L x.tick) ∨
  (b = true ∧ ∃ i s, i < k ∧ p[i]? = some s ∧ start = s.tick ∧ (∀ x ∈ p.take i, ¬ fitsAt p nodes L x.tick) ∧ ∀ j y, i ≤ j → j < k → p[j]? = some y → nodes ≤ y.free)
variable {p : List St} {nodes L start : Int} {k : Nat}
theorem tick_lt (hn : Norm p) {i j : Nat} {x y : St} (hx : p[i]? = some x) (hy : p[j]? = some y) (h : i < j) : x.tick < y.tick := by
  obtain ⟨h1, rfl⟩ := List.getElem?_eq_some_iff.1 hx
  obtain ⟨h2, rfl⟩ := List.getElem?_eq_some_iff.1 hy
  exact List.pairwise_iff_getElem.1 (norm_ticks hn) i j h1 h2 h
theorem drop_at {i : Nat} {s : St} (h : p[i]? = some s) : p.drop i = s :: p.drop (i + 1) := by
  obtain ⟨h1, rfl⟩ := List.getElem?_eq_some_iff.1 h
  exact List.drop_eq_getElem_cons h1
theorem val_tick (hn : Norm p) {i : Nat} {s : St} (h : p[i]? = some s) : val p s.tick = s.free := by
  rw [val_drop (drop_at h) (Int.le_refl _)]
  refine valA_far fun y hy => ?_
  obtain ⟨j, hj, rfl⟩ := List.getElem_of_mem hy
  rw [List.length_drop] at hj
  rw [List.getElem_drop]
  exact tick_lt hn h (List.getElem?_eq_getElem (by omega)) (by omega)
theorem val_run (hn : Norm p) {i : Nat} {s : St} (hs : p[i]? = some s) (hik : i < k) (hr : ∀ j y, i ≤ j → j < k → p[j]? = some y → nodes ≤ y.free) {t : Int} (h1 : s.tick ≤ t) (h2 : ∀ y, p[k]? = some y → t < y.tick) : nodes ≤ val p t := by
  rw [val_drop (drop_at hs) h1]
  refine valA_ge _ _ (hr i s (Nat.le_refl _) hik hs) fun y hy hyt => ?_
  obtain ⟨j, hj, rfl⟩ := List.getElem_of_mem hy
  rw [List.length_drop] at hj
  rw [List.getElem_drop] at hyt ⊢
  have e : p[i + 1 + j]? = some p[i + 1 + j] := List.getElem?_eq_getElem (by omega)
  refine hr (i + 1 + j) _ (by omega) ?_ e
  rcases Nat.lt_or_ge (i + 1 + j) k with h | h
  · exact h
  · have e2 : p[k]? = some p[k] := List.getElem?_eq_getElem (by omega)
    have h3 := h2 _ e2
    by_cases he : i + 1 + j = k
    · subst he; omega
    · have := tick_lt hn e2 e (by omega)
      omega
theorem fitS_start : FitS p nodes L 0 0 false := .inl ⟨rfl, rfl, fun x hx => by rw [List.take_zero] at hx; cases hx⟩
theorem take_mem {k : Nat} {s x : St} (h : p[k]? = some s) (hx : x ∈ p.take (k + 1)) : x ∈ p.take k ∨ x = s := by
  obtain ⟨h1, rfl⟩ := List.getElem?_eq_some_iff.1 h
  rw [List.take_succ_eq_append_getElem h1] at hx
  rcases List.mem_append.1 hx with h | h
  · exact .inl h
  · exact .inr (List.mem_singleton.1 h)
/-- Enough ahead of a step that begins late enough: found. -/
theorem fitS_found {long : Int} {s : St} (hn : Norm p) (h : FitS p nodes (longOf long) k start true) (hs : p[k]? = some s) (hl : longOf long ≤ s.tick - start) : IsF p nodes long start true := by
  rcases h with ⟨h, _⟩ | ⟨_, i, a, hi, ha, rfl, hno, hr⟩
  · cases h
  · refine fit_found hn (drop_at ha) hno fun t h1 h2 => val_run hn ha hi hr h1 fun y hy => ?_
    rw [hs] at hy
    injection hy with hy
    subst hy
    omega
theorem fitS_end {long : Int} {b : Bool} (hn : Norm p) (h : FitS p nodes (longOf long) p.length start b) : IsF p nodes long start b := by
  rcases h with ⟨rfl, rfl, h⟩ | ⟨rfl, i, a, hi, ha, rfl, hno, hr⟩
  · rw [List.take_length] at h
    exact fit_none h
  · exact fit_found hn (drop_at ha) hno fun t h1 h2 => val_run hn ha hi hr h1 fun y hy => by rw [List.getElem?_eq_none (Nat.le_refl _)] at hy; cases hy
/-- Too few: all up to here do not fit. -/
theorem fitS_few {s : St} {b : Bool} (hL : 1 ≤ L) (hn : Norm p) (h : FitS p nodes L k start b) (hs : p[k]? = some s) (hf : s.free < nodes) (hl : b = true → s.tick - start < L) : FitS p nodes L (k + 1) 0 false := by
  have hvs := val_tick hn hs
  refine .inl ⟨rfl, rfl, fun x hx hfit => ?_⟩
  rcases take_mem hs hx with hx | rfl
  · rcases h with ⟨rfl, rfl, h⟩ | ⟨rfl, i, a, hi, ha, rfl, hno, hr⟩
    · exact h x hx hfit
    · obtain ⟨j, hj, rfl⟩ := List.getElem_of_mem hx
      rw [List.length_take] at hj
      rw [List.getElem_take] at hfit
      have ej : p[j]? = some p[j] := List.getElem?_eq_getElem (by omega)
      rcases Nat.lt_or_ge j i with hji | hji
      · refine hno p[j] ?_ hfit
        rw [List.mem_take_iff_getElem]
        exact ⟨j, by omega, rfl⟩
      · have h1 := tick_lt hn ej hs (by omega)
        have h2 : a.tick ≤ p[j].tick := by
          by_cases e : i = j
          · subst e
            rw [ha] at ej
            injection ej with ej
            rw [← ej]; exact Int.le_refl _
          · have := tick_lt hn ha ej (by omega)
            omega
        have h3 := hl rfl
        have := hfit s.tick (by omega) (by omega)
        omega
  · have := hfit x.tick (Int.le_refl _) (by omega)
    omega
theorem fitS_first {s : St} (h : FitS p nodes L k start false) (hs : p[k]? = some s) (hf : ¬ s.free < nodes) : FitS p nodes L (k + 1) s.tick true := by
  rcases h with ⟨_, rfl, h⟩ | ⟨h, _⟩
  · refine .inr ⟨rfl, k, s, by omega, hs, rfl, h, fun j y h1 h2 hy => ?_⟩
    obtain rfl : j = k := by omega
    rw [hs] at hy
    injection hy with hy
    subst hy
    omega
  · cases h
theorem fitS_more {s : St} (h : FitS p nodes L k start true) (hs : p[k]? = some s) (hf : ¬ s.free < nodes) : FitS p nodes L (k + 1) start true := by
  rcases h with ⟨h, _⟩ | ⟨_, i, a, hi, ha, rfl, hno, hr⟩
  · cases h
  · refine .inr ⟨rfl, i, a, by omega, ha, rfl, hno, fun j y h1 h2 hy => ?_⟩
    by_cases e : j = k
    · subst e
      rw [hs] at hy
      injection hy with hy
      subst hy
      omega
    · exact hr j y h1 (by omega) hy
theorem fitS_mem {b : Bool} (h : FitS p nodes L k start b) : start = 0 ∨ ∃ s ∈ p, start = s.tick := by
  rcases h with ⟨_, h, _⟩ | ⟨_, i, a, hi, ha, rfl, _⟩
  · exact .inl h
  · exact .inr ⟨a, List.mem_of_getElem? ha, rfl⟩
end Go.Proofs.Ytckebhknnocpkaa.Prf
