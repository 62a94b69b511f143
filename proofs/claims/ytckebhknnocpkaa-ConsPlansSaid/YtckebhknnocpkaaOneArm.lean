/- One new element put behind an own list: the arm of a walk. -/
import Derived.Test.YtckebhknnocpkaaNest
namespace Go.Proofs.Ytckebhknnocpkaa.Nest
open Go.RowKit
open Go.Sort
open Kit
set_option linter.unusedVariables false
variable {α : Type} {enc : α → List Value} {size : Nat} {T t : TypeId} {P : Program} {z : Value} {bytes : Nat}

theorem one_arm (H : Ty enc size P t T z bytes) {w : World} {ops : Array Oper} {rest : List Oper} {o : Oper} {A : Act} {Q : Exit → Act → World → Prop} (hgd : o.guard = none) (s x : Operand) (ho : o.op = .call { callee := .builtin .append, args := #[s, x], argTypes := #[t, t] })
    (w1 : World) (C : Array Value) (hw : w = w1.alloc (.cells C T)) (y : α) (hC : C.toList = enc y) (base : Nat) (v : Value) (l : List α) (hv : A.eval s = v) (hown : Owns enc size T w1 base v l) (hx : A.eval x = .slice (some ⟨w1.heap.size, 0, none⟩) 1 1)
    (hl : l.length + 1 ≤ 100000) (hb8 : bytes ≤ 1000) (hbase : base ≤ w1.heap.size) (h : ∀ v' w', Owns enc size T w' base v' (l ++ [y]) → Below base w1 w' → wpList P ops Q rest (A.put o.dst v') w') : wpList P ops Q (o :: rest) A w := by
  subst hw
  have hb := below_alloc w1 (.cells C T)
  refine Two.append_apart H.hs H.hz H.one hgd s x t T ho H.und z bytes H.info H.zero base v l hv (own_on hown hb) (some ⟨w1.heap.size, 0, none⟩) 1 1 [y] hx rfl (row_new H.hs w1 [y] C T _ rfl (by rw [hC]; simp [flat])) (fun h => by cases h) (by unfold maxLen; omega) ?_ (Nat.le_trans hbase hb.size) ?_
  · have : (l.length + 1) * bytes ≤ 100000 * 1000 := Nat.mul_le_mul hl hb8
    omega
  · intro v' w' h1 h2 _
    exact h v' w' h1 ((hb.mono hbase).trans (Two.below_grown (own_on hown hb) h2 (Nat.le_trans hbase hb.size)))
theorem grown_cell {w w' : World} {row : Option Nat} (h : w.grownBy w' row) {b o : Nat} {v : Value} (hc : w.cell? ⟨b, o, none⟩ = some v) (hne : some b ≠ row) : w'.cell? ⟨b, o, none⟩ = some v := by
  have e := h.block b (World.block_lt_of_cell? w _ hc) hne
  unfold World.cell? at hc ⊢
  simp only [e]
  exact hc
/-- Some new elements put behind an own list at once; other blocks are as they were. -/
theorem many_arm (H : Ty enc size P t T z bytes) {w : World} {ops : Array Oper} {rest : List Oper} {o : Oper} {A : Act} {Q : Exit → Act → World → Prop} (hgd : o.guard = none) (s x : Operand) (ho : o.op = .call { callee := .builtin .append, args := #[s, x], argTypes := #[t, t] })
    (w1 : World) (C : Array Value) (hw : w = w1.alloc (.cells C T)) (ys : List α) (m : Nat) (hm : ys.length = m) (hC : C.toList = flat enc ys) (base : Nat) (v : Value) (l : List α) (hv : A.eval s = v) (hown : Owns enc size T w1 base v l) (B : Nat) (hB : B = w1.heap.size) (hx : A.eval x = .slice (some ⟨B, 0, none⟩) m m)
    (hl : l.length + m ≤ 100000) (hb8 : bytes ≤ 1000) (hbase : base ≤ w1.heap.size) (h : ∀ v' w', Owns enc size T w' base v' (l ++ ys) → Below base w1 w' → (∀ b o u, w1.cell? ⟨b, o, none⟩ = some u → some b ≠ v.ownBlock → w'.cell? ⟨b, o, none⟩ = some u) → wpList P ops Q rest (A.put o.dst v') w') : wpList P ops Q (o :: rest) A w := by
  subst hw hB
  have hb := below_alloc w1 (.cells C T)
  refine Two.append_apart H.hs H.hz H.one hgd s x t T ho H.und z bytes H.info H.zero base v l hv (own_on hown hb) (some ⟨w1.heap.size, 0, none⟩) m m ys hx hm (row_new H.hs w1 ys C T _ rfl hC) (fun h => by cases h) (by unfold maxLen; omega) ?_ (Nat.le_trans hbase hb.size) ?_
  · have : (l.length + m) * bytes ≤ 100000 * 1000 := Nat.mul_le_mul hl hb8
    omega
  · intro v' w' h1 h2 _
    exact h v' w' h1 ((hb.mono hbase).trans (Two.below_grown (own_on hown hb) h2 (Nat.le_trans hbase hb.size))) fun b o u hc hne => grown_cell h2 (cell_keep hb hc) hne
end Go.Proofs.Ytckebhknnocpkaa.Nest
