/- Appends within one another, of which the innermost list is made in the region itself: append(append(append([]T{}, x..), y..), z..). -/
import Derived.Test.YtckebhknnocpkaaNest
namespace Go.Proofs.Ytckebhknnocpkaa.Nest
open Go.RowKit
open Go.Sort
open Kit
open Rel (slot)
set_option linter.unusedVariables false
variable {α : Type} {enc : α → List Value} {size : Nat} {T : TypeId} {w0 w w' : World} {vd : Value} {p1 p2 p3 : List α}

/-- The list is nothing until operation i0 makes it, in slot d0. -/
abbrev JE (n : At) (i0 d0 : Nat) (enc : α → List Value) (size : Nat) (T : TypeId) (w0 : World) (vd : Value) (p1 p2 p3 : List α) (L : Array Bool) (s : Nat → Value) (w : World) : Prop :=
  J n enc size T w0 (cond (L.getD i0 false) (s d0) (.slice none 0 0)) vd [] p1 p2 p3 L s w
theorem startE (n : At) (i0 d0 : Nat) (k : Nat) (s : Nat → Value) (hd : s n.da = vd) (hb : Below w0.heap.size w0 w) : JE n i0 d0 enc size T w0 vd p1 p2 p3 (Array.replicate k false) s w := by
  have e : (Array.replicate k false).getD i0 false = false := by
    by_cases h : i0 < k <;> simp [h]
  unfold JE
  rw [e]
  exact start n k s hd (owns_nil _ _ _) hb
variable {n : At} {i0 d0 : Nat} {L : Array Bool} {a : Act}
theorem onE {k d : Nat} {v : Value} (hk : k ≠ i0) (hd : d ≠ d0) (h : J n enc size T w0 (cond (L.getD i0 false) (slot a d0) (.slice none 0 0)) vd [] p1 p2 p3 (L.setIfInBounds k true) (slot (a.put (some d) v)) w') : JE n i0 d0 enc size T w0 vd p1 p2 p3 (L.setIfInBounds k true) (slot (a.put (some d) v)) w' := by
  unfold JE
  rw [Rel.set_ne hk, Rel.slot_put_ne hd]
  exact h
/-- The list is made: nothing, in memory of its own. -/
theorem empE (hs : ∀ x, (enc x).length = size) (h : JE n i0 d0 enc size T w0 vd p1 p2 p3 L (slot a) w) (hk : farB i0 n.idx = true) (hd : farB d0 n.dst = true) (ht : d0 < a.tmps.size) (hi : i0 < L.size)
    (f0 : L.getD i0 false = false) (f1 : L.getD n.i1 false = false) (f2 : L.getD n.i2 false = false) (f3 : L.getD n.i3 false = false) :
    JE n i0 d0 enc size T w0 vd p1 p2 p3 (L.setIfInBounds i0 true) (slot (a.put (some d0) (.slice (some ⟨w.heap.size, 0, none⟩) 0 0))) (w.alloc (.cells #[] T)) := by
  unfold JE at h ⊢
  rw [f0] at h
  rw [Rel.set_eq rfl hi, Rel.slot_put ht]
  simp only [farB, At.idx, At.dst, List.all_cons, List.all_nil, Bool.and_true, Bool.and_eq_true, bne_iff_ne, ne_eq] at hk hd
  obtain ⟨k1, k2, k3, k4, k5, k6, k7⟩ := hk
  obtain ⟨d1, d2, d3, d4, d5, d6, d7, d8⟩ := hd
  obtain ⟨h1, h2, h3, h4, h5, h6, h7⟩ := h
  rw [f1, f2, f3] at h2 h3 h4 h5
  have hb := below_alloc w (.cells #[] T)
  have hg : ∀ v : Value, w.grownBy (w.alloc (.cells #[] T)) v.ownBlock := fun v => ⟨hb.os, hb.tape, hb.output, hb.size, fun k hk _ => hb.block k hk⟩
  refine ⟨h1.trans (hb.mono h1.size), ?_, ?_, ?_, ?_, ?_, ?_⟩
  all_goals simp only [Rel.set_ne k1, Rel.set_ne k2, Rel.set_ne k3, Rel.set_ne k4, Rel.set_ne k5, Rel.set_ne k6, Rel.set_ne k7, Rel.slot_put_ne d1, Rel.slot_put_ne d2, Rel.slot_put_ne d3, Rel.slot_put_ne d4, Rel.slot_put_ne d5, Rel.slot_put_ne d6, Rel.slot_put_ne d7, Rel.slot_put_ne d8, f1, f2, f3]
  · show Owns enc size T _ w0.heap.size (.slice (some ⟨w.heap.size, 0, none⟩) 0 0) []
    exact ⟨by simp [flat], .inr ⟨w.heap.size, 0, _, rfl, h1.size, heap_alloc_new w _, Nat.le_refl _, by unfold maxLen; omega, by simp, by simp [flat]⟩⟩
  · exact fun hc hb' => part_grown hs (h3 hc hb') (hg _) (.inr rfl)
  · exact fun hc hb' => part_grown hs (h4 hc hb') (hg _) (.inr rfl)
  · exact fun hc hb' => part_grown hs (h5 hc hb') (hg _) (.inr rfl)
  · exact h6
  · exact h7
variable {P : Program} {t : TypeId} {z : Value} {bytes : Nat}
/-- The first append, to the list made. -/
theorem ap1E (H : Ty enc size P t T z bytes) (h : JE n i0 d0 enc size T w0 vd p1 p2 p3 L (slot a) w) (hk0 : n.i1 ≠ i0) (hd0 : n.d1 ≠ d0) (f0 : L.getD i0 false = true) (hk : farB n.i1 [n.i2, n.i3, n.m1, n.m2, n.m3, n.ia] = true) (hd : farB n.d1 [n.d2, n.d3, n.t1, n.t2, n.t3, n.da] = true) (ht : n.d1 < a.tmps.size) (hi : n.i1 < L.size)
    (f1 : L.getD n.i1 false = false) (f2 : L.getD n.i2 false = false) (f3 : L.getD n.i3 false = false) (g1 : L.getD n.m1 false = true) (ga : L.getD n.ia false = false) (h63 : ([] : List α).length + p1.length ≤ maxLen) (hby : (([] : List α).length + p1.length) * bytes ≤ 140737488355328) (ty : TypeId) :
    ∃ v9 w9, (Builtin.append_ #[t, t] ty #[slot a d0, slot a n.t1]).run P w = .ok v9 w9 ∧ JE n i0 d0 enc size T w0 vd p1 p2 p3 (L.setIfInBounds n.i1 true) (slot (a.put (some n.d1) v9)) w9 := by
  obtain ⟨v9, w9, e1, e2⟩ := ap1 H h hk hd ht hi f1 f2 f3 g1 ga h63 hby ty
  rw [f0] at e1
  exact ⟨v9, w9, e1, onE hk0 hd0 e2⟩
end Go.Proofs.Ytckebhknnocpkaa.Nest
