/- Lists of numbers in memory: read, made, a call's own. -/
import Derived.Test.YtckebhknnocpkaaLst
namespace Go.Proofs.Ytckebhknnocpkaa.Tre
set_option maxRecDepth 100000
open Go.RowKit
open Go.Sort
open Kit
set_option linter.unusedVariables false

def encI (n : Int) : List Value := [.int .i64 n]
theorem encI_len (x : Int) : (encI x).length = 1 := rfl
theorem encI_one (x : Int) : ∀ u ∈ encI x, u.oneCell' = true := by
  intro u hu
  simp [encI] at hu
  subst hu; rfl
variable {w w' : World}
abbrev IntsL := Lst encI 1
theorem int_cell {b o n c k : Nat} {l : List Int} (h : IntsL w (some ⟨b, o, none⟩) n c l) (hk : k < l.length) : w.cell? ⟨b, o + k, none⟩ = some (.int .i64 l[k]) := by
  have := row_cell h.row hk rfl (i := 0) (by omega)
  simpa [encI] using this
/-- Numbers in new memory. -/
def NewI (w : World) (base : Nat) (v : Value) (l : List Int) : Prop := ∃ a c, v = .slice a l.length c ∧ IntsL w a l.length c l ∧ ∀ q, a = some q → base ≤ q.block ∧ q.block < w.heap.size
theorem newI_keep {base : Nat} {v : Value} {l : List Int} (h : NewI w base v l) (hb : Below w.heap.size w w') : NewI w' base v l := by
  obtain ⟨a, c, e, h1, h2⟩ := h
  exact ⟨a, c, e, lst_keep encI_len h1 hb, fun q hq => ⟨(h2 q hq).1, Nat.lt_of_lt_of_le (h2 q hq).2 hb.size⟩⟩
theorem newI_le {base base' : Nat} {v : Value} {l : List Int} (h : NewI w base v l) (hb : base' ≤ base) : NewI w base' v l := by
  obtain ⟨a, c, e, h1, h2⟩ := h
  exact ⟨a, c, e, h1, fun q hq => ⟨Nat.le_trans hb (h2 q hq).1, (h2 q hq).2⟩⟩
theorem newI_nil (w : World) (base : Nat) : NewI w base (.slice none 0 0) [] := ⟨none, 0, rfl, ⟨rfl, Nat.le_refl _, Nat.zero_le _, (fun _ => ⟨rfl, rfl⟩), .inl rfl⟩, fun q hq => by cases hq⟩
theorem newI_own {base : Nat} {v : Value} {l : List Int} (h : Owns encI 1 3 w base v l) : NewI w base v l := by
  obtain ⟨a, c, rfl, h1, h2, h3, h4⟩ := owns_row encI_len h
  refine ⟨a, c, rfl, ⟨rfl, h1, h2, fun e => ⟨by have := h3 e; omega, h3 e⟩, h4⟩, fun q hq => ?_⟩
  subst hq
  exact World.ownsRow.lt h q.block rfl
theorem owns_lit (w : World) (f : Int) (base : Nat) (hb : base ≤ w.heap.size) : Owns encI 1 3 (w.alloc (.cells #[.int .i64 f] 3)) base (.slice (some ⟨w.heap.size, 0, none⟩) 1 1) [f] :=
  ⟨rfl, .inr ⟨w.heap.size, 1, _, rfl, hb, heap_alloc_new w _, Nat.le_refl _, by unfold maxLen; omega, rfl, rfl⟩⟩
theorem info_i : (Try.prog.info? 3).map (fun i => (i.zero, i.size, i.bytes)) = some (some (.int .i64 0), 1, 8) := by kernel_rfl

theorem own_chg' {base : Nat} {v : Value} {l : List Int} (h : Owns encI 1 3 w base v l) (hb : Below w.heap.size w w') : Owns encI 1 3 w' base v l := by
  rcases h with ⟨h1, h2 | ⟨g, cap, cur, e1, e2, e3, e4, e5, e6, e7⟩⟩
  · exact ⟨h1, .inl h2⟩
  · exact ⟨h1, .inr ⟨g, cap, cur, e1, e2, by rw [hb.block g (Array.getElem?_eq_some_iff.1 e3).1]; exact e3, e4, e5, e6, e7⟩⟩
theorem lit_row (w : World) (k : Int) : Kit.Row encI 1 (w.alloc (.cells #[.int .i64 k] 3)) (some ⟨w.heap.size, 0, none⟩) [k] := by
  obtain ⟨a', c', e', _, _, _, hrow⟩ := owns_row encI_len (owns_lit w k w.heap.size (Nat.le_refl _))
  cases e'
  exact hrow

theorem lit2_row (w : World) (x y : Int) : Kit.Row encI 1 (w.alloc (.cells #[.int .i64 x, .int .i64 y] 3)) (some ⟨w.heap.size, 0, none⟩) [x, y] := row_new encI_len w [x, y] _ _ _ rfl rfl
abbrev OwI (w : World) (base : Nat) (v : Value) (l : List Int) : Prop := Owns encI 1 3 w base v l
theorem run_bs_i (x : Int) (w : World) : (Instr.buildSlice 28 1 #[(0, .int .i64 x)]).run Try.prog w = .ok (.slice (some ⟨w.heap.size, 0, none⟩) 1 1) (w.alloc (.cells #[.int .i64 x] 3)) := by
  simp [go_sem]
end Go.Proofs.Ytckebhknnocpkaa.Tre
