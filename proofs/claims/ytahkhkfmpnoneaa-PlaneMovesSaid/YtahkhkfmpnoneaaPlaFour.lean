/- Plane: four boxes made and written in whatever order: rooms in memory. -/
import Derived.Test.YtahkhkfmpnoneaaPlaAwake
import Derived.Test.YtahkhkfmpnoneaaRegInv
namespace Go.Proofs.Ytahkhkfmpnoneaa.Pla
open Go.RowKit

def Cells4 (w : World) (p : Nat) (a b c d : Value) : Prop := w.cell? ⟨p, 0, none⟩ = some a ∧ w.cell? ⟨p, 1, none⟩ = some b ∧ w.cell? ⟨p, 2, none⟩ = some c ∧ w.cell? ⟨p, 3, none⟩ = some d
def st4 (w : World) (p : Nat) (a b c d : Value) : World := (((w.setCell ⟨p, 0, none⟩ a).setCell ⟨p, 1, none⟩ b).setCell ⟨p, 2, none⟩ c).setCell ⟨p, 3, none⟩ d
def Room (w0 w : World) (p : Nat) : Prop := w0.heap.size ≤ p ∧ p < w.heap.size ∧ (∃ a b c d, Cells4 w p a b c d) ∧ ∀ o, w.frozen? ⟨p, o, none⟩ = false

theorem cell_alloc {w : World} {a : Addr} {v : Value} {o : Obj} (h : w.cell? a = some v) : (w.alloc o).cell? a = some v := by
  rw [World.cell?_alloc_some _ _ _ (by rw [h]; rfl)]; exact h
theorem c4_alloc {w : World} {p : Nat} {a b c d : Value} (h : Cells4 w p a b c d) (o : Obj) : Cells4 (w.alloc o) p a b c d :=
  ⟨cell_alloc h.1, cell_alloc h.2.1, cell_alloc h.2.2.1, cell_alloc h.2.2.2⟩
theorem room_alloc {w0 w : World} {p : Nat} (h : Room w0 w p) (o : Obj) : Room w0 (w.alloc o) p := by
  obtain ⟨h1, h2, ⟨a, b, c, d, h3⟩, h4⟩ := h
  exact ⟨h1, by simp; omega, ⟨a, b, c, d, c4_alloc h3 o⟩, fun i => by rw [World.frozen?_alloc_past _ _ _ (by exact h2)]; exact h4 i⟩
theorem room_new {w0 w : World} (h : w0.heap.size ≤ w.heap.size) (a b c d : Value) (T : TypeId) : Room w0 (w.alloc (.cells #[a, b, c, d] T)) w.heap.size :=
  ⟨h, by simp, ⟨a, b, c, d, by simp, by simp, by simp, by simp⟩, fun i => by simp⟩
theorem same_cell {w : World} {a : Addr} {u : Value} (h : w.cell? a = some u) (v : Value) : (w.setCell a v).cell? a = some v := World.cell?_setCell_same' w a v (by rw [h]; rfl)
theorem setCell_size (w : World) (a : Addr) (v : Value) : (w.setCell a v).heap.size = w.heap.size := by simp [World.setCell]
theorem st4_size (w : World) (p : Nat) (a b c d : Value) : (st4 w p a b c d).heap.size = w.heap.size := by unfold st4; rw [setCell_size, setCell_size, setCell_size, setCell_size]
theorem st4_frozen (w : World) (p : Nat) (a b c d : Value) (x : Addr) : (st4 w p a b c d).frozen? x = w.frozen? x := by unfold st4; simp
theorem st4_far (w : World) (p : Nat) (a b c d : Value) {q o : Nat} (h : q ≠ p) : (st4 w p a b c d).cell? ⟨q, o, none⟩ = w.cell? ⟨q, o, none⟩ := by
  unfold st4
  rw [World.cell?_setCell_far _ _ _ _ (fun e => h e.symm), World.cell?_setCell_far _ _ _ _ (fun e => h e.symm), World.cell?_setCell_far _ _ _ _ (fun e => h e.symm), World.cell?_setCell_far _ _ _ _ (fun e => h e.symm)]
theorem off_ne {p i j : Nat} (h : i ≠ j) : (⟨p, i, none⟩ : Addr) ≠ ⟨p, j, none⟩ := fun e => h (by injection e)
theorem c4_st {w0 w : World} {p : Nat} (h : Room w0 w p) (a b c d : Value) : Cells4 (st4 w p a b c d) p a b c d := by
  obtain ⟨_, _, ⟨x, y, z, u, h0, h1, h2, h3⟩, _⟩ := h
  unfold st4
  have e0 := same_cell h0 a
  have e1 : (w.setCell ⟨p, 0, none⟩ a).cell? ⟨p, 1, none⟩ = some y := by rw [World.cell?_setCell_other _ _ _ _ (off_ne (by omega))]; exact h1
  have f1 := same_cell e1 b
  have e2 : ((w.setCell ⟨p, 0, none⟩ a).setCell ⟨p, 1, none⟩ b).cell? ⟨p, 2, none⟩ = some z := by rw [World.cell?_setCell_other _ _ _ _ (off_ne (by omega)), World.cell?_setCell_other _ _ _ _ (off_ne (by omega))]; exact h2
  have f2 := same_cell e2 c
  have e3 : (((w.setCell ⟨p, 0, none⟩ a).setCell ⟨p, 1, none⟩ b).setCell ⟨p, 2, none⟩ c).cell? ⟨p, 3, none⟩ = some u := by rw [World.cell?_setCell_other _ _ _ _ (off_ne (by omega)), World.cell?_setCell_other _ _ _ _ (off_ne (by omega)), World.cell?_setCell_other _ _ _ _ (off_ne (by omega))]; exact h3
  refine ⟨?_, ?_, ?_, same_cell e3 d⟩
  · rw [World.cell?_setCell_other _ _ _ _ (off_ne (by omega)), World.cell?_setCell_other _ _ _ _ (off_ne (by omega)), World.cell?_setCell_other _ _ _ _ (off_ne (by omega))]; exact e0
  · rw [World.cell?_setCell_other _ _ _ _ (off_ne (by omega)), World.cell?_setCell_other _ _ _ _ (off_ne (by omega))]; exact f1
  · rw [World.cell?_setCell_other _ _ _ _ (off_ne (by omega))]; exact f2
theorem c4_far {w : World} {p q : Nat} {a b c d a' b' c' d' : Value} (h : Cells4 w q a b c d) (hne : q ≠ p) : Cells4 (st4 w p a' b' c' d') q a b c d := by
  unfold Cells4; rw [st4_far _ _ _ _ _ _ hne, st4_far _ _ _ _ _ _ hne, st4_far _ _ _ _ _ _ hne, st4_far _ _ _ _ _ _ hne]; exact h
theorem room_st {w0 w : World} {p q : Nat} (h : Room w0 w q) (a b c d : Value) : Room w0 (st4 w p a b c d) q := by
  have hh := h
  obtain ⟨h1, h2, ⟨x, y, z, u, h3⟩, h4⟩ := h
  refine ⟨h1, by rw [st4_size]; exact h2, ?_, fun i => by rw [st4_frozen]; exact h4 i⟩
  by_cases e : q = p
  · subst e; exact ⟨a, b, c, d, c4_st hh a b c d⟩
  · exact ⟨x, y, z, u, c4_far h3 e⟩
theorem st4_below {w0 w : World} {p : Nat} (h : Below w0.heap.size w0 w) (hp : w0.heap.size ≤ p) (a b c d : Value) : Below w0.heap.size w0 (st4 w p a b c d) := by
  unfold st4
  exact (((h.setCell (p := ⟨p, 0, none⟩) hp _).setCell (p := ⟨p, 1, none⟩) hp _).setCell (p := ⟨p, 2, none⟩) hp _).setCell (p := ⟨p, 3, none⟩) hp _

theorem set_same {L : Array Bool} {i : Nat} (h : L.getD i true = false) : (L.setIfInBounds i true).getD i false = true := by
  obtain ⟨hi, _⟩ := Reg.getD_false h
  simp [hi]
theorem set_ne {L : Array Bool} {i j : Nat} (h : i ≠ j) : (L.setIfInBounds i true).getD j false = L.getD j false := by
  simp [h]

end Go.Proofs.Ytahkhkfmpnoneaa.Pla
