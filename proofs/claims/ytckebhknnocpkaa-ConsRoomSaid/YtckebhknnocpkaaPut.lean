/- A cell of an element of an own list written. -/
import Derived.Test.YtckebhknnocpkaaKit
namespace Go.Proofs.Ytckebhknnocpkaa.Kit
open Go.RowKit
open Go.Sort
variable {α : Type} {enc : α → List Value} {size : Nat}

theorem flat_put (hs : ∀ x, (enc x).length = size) {i : Nat} (hi : i < size) (f : α → α) (u : Value) (hf : ∀ a, enc (f a) = (enc a).set i u) : ∀ (l : List α) (k : Nat) (a : α), l[k]? = some a → (flat enc l).set (k * size + i) u = flat enc (l.set k (f a))
  | [], k, a, h => by simp at h
  | x :: l, 0, a, h => by
    simp at h
    subst h
    have e : flat enc (x :: l) = enc x ++ flat enc l := rfl
    have e2 : flat enc ((x :: l).set 0 (f x)) = enc (f x) ++ flat enc l := rfl
    rw [e, e2, hf, List.set_append, if_pos (by rw [hs]; omega), Nat.zero_mul, Nat.zero_add]
  | x :: l, k + 1, a, h => by
    rw [List.getElem?_cons_succ] at h
    have ih := flat_put hs hi f u hf l k a h
    have e : flat enc (x :: l) = enc x ++ flat enc l := rfl
    have e2 : flat enc ((x :: l).set (k + 1) (f a)) = enc x ++ flat enc (l.set k (f a)) := rfl
    have e3 : (k + 1) * size + i = size + (k * size + i) := by rw [Nat.add_mul, Nat.one_mul]; omega
    rw [e, e2, ← ih, List.set_append, if_neg (by rw [hs, e3]; omega), hs, e3, show size + (k * size + i) - size = k * size + i by omega]
/-- An own list with something in it is a block of its own. -/
theorem owns_at {e : TypeId} {w : World} {base : Nat} {v : Value} {l : List α} (hs : ∀ x, (enc x).length = size) (h : Owns enc size e w base v l) (hl : 1 ≤ l.length) : ∃ g cap, v = .slice (some ⟨g, 0, none⟩) l.length cap ∧ base ≤ g ∧ l.length ≤ cap ∧ cap ≤ maxLen := by
  obtain ⟨a, c, hv, hc, hcm, hn, hrow⟩ := owns_row hs h
  rcases h.2 with ⟨_, h0⟩ | ⟨g, cap, cur, hv2, hg, _⟩
  · omega
  · rw [hv] at hv2
    injection hv2 with e1 e2 e3
    subst e1
    exact ⟨g, c, hv, hg, hc, hcm⟩
theorem owns_put {e : TypeId} {w : World} {base g n cap : Nat} {l : List α} (hs : ∀ x, (enc x).length = size) (h : Owns enc size e w base (.slice (some ⟨g, 0, none⟩) n cap) l) (hnl : l.length = n) {k i : Nat} {a : α} (ha : l[k]? = some a) (hi : i < size) (f : α → α) (u : Value) (hf : ∀ a, enc (f a) = (enc a).set i u) :
    w.cell? ⟨g, k * size + i, none⟩ = (enc a)[i]? ∧ w.frozen? ⟨g, k * size + i, none⟩ = false ∧ Owns enc size e (w.setCell ⟨g, k * size + i, none⟩ u) base (.slice (some ⟨g, 0, none⟩) n cap) (l.set k (f a)) := by
  subst hnl
  have hk := (List.getElem?_eq_some_iff.1 ha).1
  have he := (List.getElem?_eq_some_iff.1 ha).2
  have hfl := flat_length hs l
  have hlt : k * size + i < l.length * size := by
    have : (k + 1) * size ≤ l.length * size := Nat.mul_le_mul_right _ (by omega)
    rw [Nat.add_mul, Nat.one_mul] at this; omega
  unfold Owns at h ⊢
  refine ⟨?_, ?_, ?_⟩
  · rw [h.cellAt _ hlt, flat_at hs l k hk i hi, he]
  · exact h.frozenAt _
  · have := (h.stored (k * size + i) u).1
    rw [flat_put hs hi f u hf l k a ha] at this
    rw [List.length_set]
    exact this
theorem size_setCell (w : World) (a : Addr) (v : Value) : (w.setCell a v).heap.size = w.heap.size := by simp [World.setCell]
end Go.Proofs.Ytckebhknnocpkaa.Kit
