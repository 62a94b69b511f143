/- Common: two boxes made and written in a region that draws its order (`x, y := l[i], l[j]` of structs). -/
import Derived.Test.YtkjkhfkaihncdaaRegSee
import Derived.Test.YtkjkhfkaihncdaaFoot
import Derived.Test.YtkjkhfkaihncdaaArrs
namespace Go.Proofs.Ytkjkhfkaihncdaa.BoxTwo
open Go.RowKit
open Kit
open Rel (slot)
set_option linter.unusedVariables false

/-- Where: the two allocs, the two stores, their slots. -/
structure At where
  i1 : Nat
  i2 : Nat
  s1 : Nat
  s2 : Nat
  d1 : Nat
  d2 : Nat
def Box (W : World) (T : TypeId) (Z X : List Value) (done : Bool) (v : Value) (w : World) : Prop := ∃ B, v = .pointer (some ⟨B, 0, none⟩) ∧ W.heap.size ≤ B ∧ Arr.Blk w B T (if done = true then X else Z)
def J (n : At) (W : World) (T : TypeId) (Z X Y : List Value) (L : Array Bool) (f : Tmp → Value) (w : World) : Prop :=
  Below W.heap.size W w ∧ (L.getD n.i1 false = true → Box W T Z X (L.getD n.s1 false) (f n.d1) w) ∧ (L.getD n.i2 false = true → Box W T Z Y (L.getD n.s2 false) (f n.d2) w) ∧ (L.getD n.i1 false = true → L.getD n.i2 false = true → f n.d1 ≠ f n.d2)
variable {n : At} {W w : World} {T : TypeId} {Z X Y : List Value} {L : Array Bool} {a : Act}
theorem start (m : Nat) (f : Tmp → Value) : J n W T Z X Y (Array.replicate m false) f W.drew := by
  have h : ∀ i : Nat, (Array.replicate m false).getD i false = false := by
    intro i
    by_cases hi : i < m <;> simp [hi]
  refine ⟨below_drew W, ?_, ?_, ?_⟩ <;> intro e <;> rw [h] at e <;> cases e
theorem go {k d : Nat} {v : Value} (h : J n W T Z X Y L (slot a) w) (k1 : k ≠ n.i1) (k2 : k ≠ n.i2) (k3 : k ≠ n.s1) (k4 : k ≠ n.s2) (e1 : d ≠ n.d1) (e2 : d ≠ n.d2) : J n W T Z X Y (L.setIfInBounds k true) (slot (a.put (some d) v)) w := by
  unfold J
  simp only [Rel.set_ne k1, Rel.set_ne k2, Rel.set_ne k3, Rel.set_ne k4, Rel.slot_put_ne e1, Rel.slot_put_ne e2]
  exact h
theorem mk1 (h : J n W T Z X Y L (slot a) w) (k2 : n.i1 ≠ n.i2) (k3 : n.i1 ≠ n.s1) (k4 : n.i1 ≠ n.s2) (e2 : n.d1 ≠ n.d2) (ht : n.d1 < a.tmps.size) (hs : L.getD n.s1 false = false) :
    J n W T Z X Y (L.setIfInBounds n.i1 true) (slot (a.put (some n.d1) (.pointer (some ⟨w.heap.size, 0, none⟩)))) (w.alloc (.cells Z.toArray T)) := by
  obtain ⟨h1, h2, h3, h4⟩ := h
  unfold J
  simp only [Rel.set_ne k2, Rel.set_ne k3, Rel.set_ne k4, Rel.slot_put_ne e2, Rel.slot_put ht, hs]
  refine ⟨h1.trans ((below_alloc w _).mono h1.size), fun _ => ⟨w.heap.size, rfl, h1.size, Arr.blk_new w _ _ Z rfl⟩, fun hi => ?_, fun _ hi e => ?_⟩
  · obtain ⟨B, e, hb, hk⟩ := h3 hi
    exact ⟨B, e, hb, Arr.blk_alloc hk _⟩
  · obtain ⟨B, e', hb, hk⟩ := h3 hi
    have := Arr.blk_lt hk
    rw [e'] at e
    injection e with e
    injection e with e
    injection e with e
    omega
theorem mk2 (h : J n W T Z X Y L (slot a) w) (k2 : n.i2 ≠ n.i1) (k3 : n.i2 ≠ n.s1) (k4 : n.i2 ≠ n.s2) (e2 : n.d2 ≠ n.d1) (ht : n.d2 < a.tmps.size) (hs : L.getD n.s2 false = false) :
    J n W T Z X Y (L.setIfInBounds n.i2 true) (slot (a.put (some n.d2) (.pointer (some ⟨w.heap.size, 0, none⟩)))) (w.alloc (.cells Z.toArray T)) := by
  obtain ⟨h1, h2, h3, h4⟩ := h
  unfold J
  simp only [Rel.set_ne k2, Rel.set_ne k3, Rel.set_ne k4, Rel.slot_put_ne e2, Rel.slot_put ht, hs]
  refine ⟨h1.trans ((below_alloc w _).mono h1.size), fun hi => ?_, fun _ => ⟨w.heap.size, rfl, h1.size, Arr.blk_new w _ _ Z rfl⟩, fun hi _ e => ?_⟩
  · obtain ⟨B, e, hb, hk⟩ := h2 hi
    exact ⟨B, e, hb, Arr.blk_alloc hk _⟩
  · obtain ⟨B, e', hb, hk⟩ := h2 hi
    have := Arr.blk_lt hk
    rw [e'] at e
    injection e with e
    injection e with e
    injection e with e
    omega
theorem ptr_ne {B C : Nat} (h : Value.pointer (some ⟨B, 0, none⟩) ≠ .pointer (some ⟨C, 0, none⟩)) : B ≠ C := fun e => h (by rw [e])
theorem st1 {m : Nat} (h : J n W T Z X Y L (slot a) w) (k1 : n.s1 ≠ n.i1) (k2 : n.s1 ≠ n.i2) (k3 : n.s1 ≠ n.s2) (hi : L.getD n.i1 false = true) (hs : L.getD n.s1 false = false) (hm : L.size = m) (hsm : n.s1 < m) :
    ∃ B, slot a n.d1 = .pointer (some ⟨B, 0, none⟩) ∧ Arr.Blk w B T Z ∧ J n W T Z X Y (L.setIfInBounds n.s1 true) (slot a) (w.setRow B X.toArray) := by
  obtain ⟨h1, h2, h3, h4⟩ := h
  obtain ⟨B, e, hb, hk⟩ := h2 hi
  rw [hs] at hk
  refine ⟨B, e, hk, ?_⟩
  unfold J
  simp only [Rel.set_ne k1, Rel.set_ne k2, Rel.set_ne k3, Rel.set_eq hm hsm]
  refine ⟨Arr.below_row h1 hb _, fun _ => ⟨B, e, hb, Arr.blk_row hk X⟩, fun h5 => ?_, h4⟩
  obtain ⟨C, e2, hc, hk2⟩ := h3 h5
  have hne := h4 hi h5
  rw [e, e2] at hne
  exact ⟨C, e2, hc, Arr.blk_row_far hk2 (fun e => ptr_ne hne e.symm) _⟩
theorem st2 {m : Nat} (h : J n W T Z X Y L (slot a) w) (k1 : n.s2 ≠ n.i1) (k2 : n.s2 ≠ n.i2) (k3 : n.s2 ≠ n.s1) (hi : L.getD n.i2 false = true) (hs : L.getD n.s2 false = false) (hm : L.size = m) (hsm : n.s2 < m) :
    ∃ B, slot a n.d2 = .pointer (some ⟨B, 0, none⟩) ∧ Arr.Blk w B T Z ∧ J n W T Z X Y (L.setIfInBounds n.s2 true) (slot a) (w.setRow B Y.toArray) := by
  obtain ⟨h1, h2, h3, h4⟩ := h
  obtain ⟨B, e, hb, hk⟩ := h3 hi
  rw [hs] at hk
  refine ⟨B, e, hk, ?_⟩
  unfold J
  simp only [Rel.set_ne k1, Rel.set_ne k2, Rel.set_ne k3, Rel.set_eq hm hsm]
  refine ⟨Arr.below_row h1 hb _, fun h5 => ?_, fun _ => ⟨B, e, hb, Arr.blk_row hk Y⟩, h4⟩
  obtain ⟨C, e2, hc, hk2⟩ := h2 h5
  have hne := h4 h5 hi
  rw [e, e2] at hne
  exact ⟨C, e2, hc, Arr.blk_row_far hk2 (ptr_ne hne) _⟩
theorem fin {m : Nat} {f : Tmp → Value} (h : J n W T Z X Y (Array.replicate m true) f w) (h1 : n.i1 < m) (h2 : n.i2 < m) (h3 : n.s1 < m) (h4 : n.s2 < m) : ∃ B C, f n.d1 = .pointer (some ⟨B, 0, none⟩) ∧ f n.d2 = .pointer (some ⟨C, 0, none⟩) ∧ B ≠ C ∧ Arr.Blk w B T X ∧ Arr.Blk w C T Y ∧ Below W.heap.size W w := by
  have hg : ∀ i, i < m → (Array.replicate m true).getD i false = true := fun i hi => by simp [hi]
  obtain ⟨g1, g2, g3, g4⟩ := h
  obtain ⟨B, e, hb, hk⟩ := g2 (hg _ h1)
  obtain ⟨C, e2, hc, hk2⟩ := g3 (hg _ h2)
  have hne := g4 (hg _ h1) (hg _ h2)
  rw [hg _ h3] at hk
  rw [hg _ h4] at hk2
  rw [e, e2] at hne
  exact ⟨B, C, e, e2, ptr_ne hne, hk, hk2, g1⟩
end Go.Proofs.Ytkjkhfkaihncdaa.BoxTwo
