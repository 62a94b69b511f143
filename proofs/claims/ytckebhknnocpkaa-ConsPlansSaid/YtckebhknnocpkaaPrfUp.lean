/- Profile: the ticks at which something may change, rising, are there (mathematics). -/
import Derived.Test.YtckebhknnocpkaaPrfFn
namespace Go.Proofs.Ytckebhknnocpkaa.Prf
set_option linter.unusedVariables false

theorem ins_up : ∀ (l : List Int), l.Pairwise (· < ·) → ∀ x : Int, ∃ l' : List Int, l'.Pairwise (· < ·) ∧ ∀ y, y ∈ l' ↔ y = x ∨ y ∈ l
  | [], _, x => ⟨[x], List.pairwise_singleton _ _, by simp⟩
  | a :: l, h, x => by
    obtain ⟨h1, h2⟩ := List.pairwise_cons.1 h
    rcases Int.lt_trichotomy x a with hlt | heq | hgt
    · exact ⟨x :: a :: l, List.pairwise_cons.2 ⟨fun y hy => by
        rcases List.mem_cons.1 hy with rfl | hy
        · exact hlt
        · have := h1 y hy; omega, h⟩, by simp⟩
    · exact ⟨a :: l, h, fun y => by rw [heq]; simp⟩
    · obtain ⟨l', k1, k2⟩ := ins_up l h2 x
      refine ⟨a :: l', List.pairwise_cons.2 ⟨fun y hy => ?_, k1⟩, fun y => ?_⟩
      · rcases (k2 y).1 hy with rfl | hy
        · exact hgt
        · exact h1 y hy
      · simp only [List.mem_cons, k2]
        constructor
        · rintro (h | h | h)
          · exact .inr (.inl h)
          · exact .inl h
          · exact .inr (.inr h)
        · rintro (h | h | h)
          · exact .inr (.inl h)
          · exact .inl h
          · exact .inr (.inr h)
theorem up_there (u : Int) : ∀ more : List Int, ∃ l : List Int, l.Pairwise (· < ·) ∧ ∀ y, y ∈ l ↔ y ∈ more ∧ u < y
  | [] => ⟨[], List.Pairwise.nil, by simp⟩
  | x :: more => by
    obtain ⟨l, h1, h2⟩ := up_there u more
    by_cases hx : u < x
    · obtain ⟨l', k1, k2⟩ := ins_up l h1 x
      refine ⟨l', k1, fun y => ?_⟩
      rw [k2, h2, List.mem_cons]
      constructor
      · rintro (rfl | ⟨a, b⟩)
        · exact ⟨.inl rfl, hx⟩
        · exact ⟨.inr a, b⟩
      · rintro ⟨rfl | a, b⟩
        · exact .inl rfl
        · exact .inr ⟨a, b⟩
    · refine ⟨l, h1, fun y => ?_⟩
      rw [h2, List.mem_cons]
      constructor
      · rintro ⟨a, b⟩; exact ⟨.inr a, b⟩
      · rintro ⟨rfl | a, b⟩
        · exact absurd b hx
        · exact ⟨a, b⟩
theorem isT_there (u : Int) (more : List Int) : ∃ ts, IsT u more ts := by
  obtain ⟨l, h1, h2⟩ := up_there u more
  refine ⟨u :: l, List.pairwise_cons.2 ⟨fun y hy => ((h2 y).1 hy).2, h1⟩, rfl, fun x => ?_⟩
  rw [List.mem_cons, h2]
end Go.Proofs.Ytckebhknnocpkaa.Prf
