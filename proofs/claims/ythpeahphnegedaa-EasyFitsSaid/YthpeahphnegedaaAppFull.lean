/- An append to a slice that is full, whosever it is: a new list of one's own, all else as it was. -/
import Derived.Test.YthpeahphnegedaaKit
import Derived.ArgAppend
namespace Go.Proofs.Ythpeahphnegedaa.Two
open Go.RowKit
open Kit
open Go.Sort
set_option linter.unusedVariables false
variable {α : Type} {enc : α → List Value} {size : Nat}

theorem row_cells {w : World} {ad : Addr} {l : List α} (hs : ∀ x, (enc x).length = size) (hz : 0 < size) (h : Row enc size w (some ad) l) : ∀ j u, (flat enc l)[j]? = some u → w.cell? (ad.add j) = some u := by
  intro j u hj
  rcases h with rfl | ⟨b, off, h1, h2⟩
  · simp [flat] at hj
  · simp at h1
    subst h1
    have hjl : j < l.length * size := by rw [← flat_length hs]; exact (List.getElem?_eq_some_iff.1 hj).1
    have hd : j / size < l.length := by rw [Nat.div_lt_iff_lt_mul hz]; exact hjl
    have hm := Nat.mod_lt j hz
    have e1 := h2 (j / size) hd (j % size) hm
    rw [← flat_at hs l (j / size) hd (j % size) hm] at e1
    have e2 : j / size * size + j % size = j := by rw [Nat.mul_comm]; exact Nat.div_add_mod j size
    rw [Nat.add_assoc, e2, hj] at e1
    rw [add_plain]; exact e1
theorem append_full (hs : ∀ x, (enc x).length = size) (hz : 0 < size) {P : Program} {w : World} {ops : Array Oper} {rest : List Oper} {o : Oper} {A : Act} {Q : Exit → Act → World → Prop} (hgd : o.guard = none) (s x : Operand) (t e : TypeId)
    (ho : o.op = .call { callee := .builtin .append, args := #[s, x], argTypes := #[t, t] }) (ht : P.underlying t = some (.slice e)) (z : Value) (bytes : Nat)
    (hinfo : (P.info? e).map (fun i => (i.zero, i.size, i.bytes)) = some (some z, size, bytes)) (hzs : z.cells.size = size)
    (b : Addr) (n cap : Nat) (l : List α) (hv : A.eval s = .slice (some b) n cap) (hl : l.length = n) (hrow1 : Row enc size w (some b) l) (ad : Addr) (m c : Nat) (k : List α) (hx : A.eval x = .slice (some ad) m c) (hk : k.length = m) (hrow : Row enc size w (some ad) k)
    (hg : cap < n + m) (h63 : n + m ≤ maxLen) (hbytes : (n + m) * bytes ≤ 140737488355328)
    (h : ∀ v' w', Owns enc size e w' w.heap.size v' (l ++ k) → Below w.heap.size w w' → wpList P ops Q rest (A.put o.dst v') w') : wpList P ops Q (o :: rest) A w := by
  obtain ⟨i0, hi, hz0, hz1, hz2⟩ := info_parts hinfo
  obtain ⟨v', w', hr, h1, h2⟩ := run_append_arg_grows (P := P) (w := w) t o.type e i0 z size bytes ht hi hz0 hz1 hz2 hzs hz b n cap (flat enc l) (by rw [flat_length hs, hl]) (row_cells hs hz hrow1) ad m c (flat enc k) (by rw [flat_length hs, hk]) (row_cells hs hz hrow) hg h63 hbytes
  refine wpList_plain hgd fun K hK => ?_
  unfold Oper.wp execOp
  simp only [ho, resolve, invoke, builtin, Sem.run_bind, Sem.run_pure, Result.andThen_ok, List.map_toArray, List.map_cons, List.map_nil, hv, hx, hr]
  refine hK _ _ (h v' w' ?_ ((Below.refl _ _).grown h2 (Nat.le_refl _) fun k hk => by cases hk))
  unfold Owns
  rw [flat_append, List.length_append, hk, hl]
  exact h1
end Go.Proofs.Ythpeahphnegedaa.Two
