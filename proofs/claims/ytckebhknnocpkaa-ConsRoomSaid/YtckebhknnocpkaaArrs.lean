/- Common: arrays: blocks of cells that are the call's own. -/
import Derived.Test.YtckebhknnocpkaaKit
import Derived.Laws.Tables
import Derived.Laws.Rows
namespace Go.Proofs.Ytckebhknnocpkaa.Arr
open Go.RowKit
open Go.Sort
open Kit

/-- A block's cells. -/
def Blk (w : World) (b : Nat) (t : TypeId) (cs : List Value) : Prop := w.heap[b]? = some (.cells cs.toArray t (0, 0))
theorem blk_cell {w : World} {b : Nat} {t : TypeId} {cs : List Value} (h : Blk w b t cs) (j : Nat) : w.cell? ⟨b, j, none⟩ = cs[j]? := by
  unfold Blk at h
  simp [World.cell?, h]
theorem blk_frozen {w : World} {b : Nat} {t : TypeId} {cs : List Value} (h : Blk w b t cs) (j : Nat) : w.frozen? ⟨b, j, none⟩ = false := by
  unfold Blk at h
  simp [World.frozen?, h]
theorem blk_lt {w : World} {b : Nat} {t : TypeId} {cs : List Value} (h : Blk w b t cs) : b < w.heap.size := (Array.getElem?_eq_some_iff.1 h).1
theorem blk_row {w : World} {b : Nat} {t : TypeId} {cs : List Value} (h : Blk w b t cs) (ds : List Value) : Blk (w.setRow b ds.toArray) b t ds := setRow_heap w b _ _ t _ h
theorem blk_row_far {w : World} {b b' : Nat} {t : TypeId} {cs : List Value} (h : Blk w b t cs) (hne : b ≠ b') (ds : Array Value) : Blk (w.setRow b' ds) b t cs := by
  unfold Blk; rw [setRow_other w b' b ds hne]; exact h
theorem blk_set {w : World} {b : Nat} {t : TypeId} {cs : List Value} (h : Blk w b t cs) (i : Nat) (v : Value) : Blk (w.setCell ⟨b, i, none⟩ v) b t (cs.set i v) := by
  rw [setCell_eq_setRow w b i _ t _ v h]
  have := blk_row h (cs.set i v)
  simpa using this
theorem blk_set_far {w : World} {b b' : Nat} {t : TypeId} {cs : List Value} (h : Blk w b t cs) (hne : b ≠ b') (i : Nat) (v : Value) : Blk (w.setCell ⟨b', i, none⟩ v) b t cs := by
  unfold Blk World.setCell at *
  simp [Array.getElem?_modify, Ne.symm hne, h]
theorem blk_new (w : World) (b : Nat) (t : TypeId) (cs : List Value) (h : b = w.heap.size) : Blk (w.alloc (.cells cs.toArray t)) b t cs := by
  subst h
  unfold Blk World.alloc
  simp
theorem blk_alloc {w : World} {b : Nat} {t : TypeId} {cs : List Value} (h : Blk w b t cs) (o : Obj) : Blk (w.alloc o) b t cs := by
  have hlt := blk_lt h
  unfold Blk World.alloc at *
  simp [Array.getElem?_push, Nat.ne_of_lt hlt, h]
theorem blk_below {w w' : World} {B b : Nat} {t : TypeId} {cs : List Value} (h : Blk w b t cs) (hb : Below B w w') (hlt : b < B) : Blk w' b t cs := by
  unfold Blk; rw [hb.block b hlt]; exact h
theorem below_set {w w' : World} {B b : Nat} (h : Below B w w') (hb : B ≤ b) (i : Nat) (v : Value) : Below B w (w'.setCell ⟨b, i, none⟩ v) := by
  refine ⟨h.os, h.tape, h.output, by rw [setCell_size]; exact h.size, fun k hk => ?_⟩
  rw [← h.block k hk]
  unfold World.setCell
  have : b ≠ k := by omega
  simp [Array.getElem?_modify, this]
theorem below_row {w w' : World} {B b : Nat} (h : Below B w w') (hb : B ≤ b) (ds : Array Value) : Below B w (w'.setRow b ds) := by
  refine ⟨h.os, h.tape, h.output, by rw [setRow_size]; exact h.size, fun k hk => ?_⟩
  rw [← h.block k hk, setRow_other _ _ _ _ (by omega)]

/-- A whole array is written. -/
theorem wpList_store_blk {P : Program} {ops : Array Oper} {rest : List Oper} {o : Oper} {a : Act} {w : World} {Q : Exit → Act → World → Prop} (hgd : o.guard = none) (ty : TypeId) (x y : Operand) (ho : o.op = .store ty x y)
    (g : Nat) (ds : List Value) (hx : a.eval x = .pointer (some ⟨g, 0, none⟩)) (hy : a.eval y = .agg ds.toArray) (cs : List Value) (t : TypeId) (hB : Blk w g t cs) (hi : (P.info? ty).map (·.size) = some ds.length)
    (hold : cs.length = ds.length) (h1 : ds.all (·.oneCell') = true) (B : Nat) (hb : B ≤ g)
    (h : ∀ w', Blk w' g t ds → Below B w w' → wpList P ops Q rest (a.put o.dst undef) w') : wpList P ops Q (o :: rest) a w :=
  wpList_store_row hgd ty x y ho g ds.toArray hx hy t cs.toArray hB (by simpa using hi) (by simpa using hold) (by simpa using h1) (h _ (blk_row hB ds) (below_row (Below.refl _ _) hb _))
/-- A whole array is read. -/
theorem wpList_load_blk {P : Program} {ops : Array Oper} {rest : List Oper} {o : Oper} {a : Act} {w : World} {Q : Exit → Act → World → Prop} (hgd : o.guard = none) (ty : TypeId) (x : Operand) (ho : o.op = .load ty x)
    (g : Nat) (hx : a.eval x = .pointer (some ⟨g, 0, none⟩)) (cs : List Value) (t : TypeId) (hB : Blk w g t cs) (d : TypeDesc) (hu : P.underlying ty = some d) (hd : (match d with | .struct _ | .array _ _ => true | _ => false) = true)
    (hi : (P.info? ty).map (·.size) = some cs.length)
    (h : wpList P ops Q rest (a.put o.dst (.agg cs.toArray)) w) : wpList P ops Q (o :: rest) a w :=
  wpList_load_row hgd ty x ho g hx t cs.toArray (0, 0) d hB hu hd (by simpa using hi) h

end Go.Proofs.Ytckebhknnocpkaa.Arr
