/- Tree: what single operations on numbers and lists of numbers answer (for a drawn region). -/
import Derived.Test.YtpciijihedlheaaTreAwk
import Derived.Test.YtpciijihedlheaaRegChn
namespace Go.Proofs.Ytpciijihedlheaa.Tre
set_option maxRecDepth 100000
open Go.RowKit
open Go.Sort
open Kit
set_option linter.unusedVariables false
variable {w w' : World}

theorem run_ii {b o n c k : Nat} (h : k < n) (w : World) : (Instr.indexAt 29 (.slice (some ⟨b, o, none⟩) n c) (.int .i64 k)).run Try.prog w = .ok (.pointer (some ⟨b, o + k, none⟩)) w := by
  simp [go_sem, h]
theorem run_if {b o n c k : Nat} (h : k < n) (w : World) : (Instr.indexAt 22 (.slice (some ⟨b, o, none⟩) n c) (.int .i64 k)).run Try.prog w = .ok (.pointer (some ⟨b, o + k * 3, none⟩)) w := by
  simp [go_sem, h]
theorem run_sub1 {j k : Nat} (hj : j = k + 1) (h : j ≤ 1000) (x y : Operand) (w : World) : (do eqGuard .sub 3 x y (.int .i64 (j : Nat)) (.int .i64 1); binOp .sub 3 (.int .i64 (j : Nat)) (.int .i64 1) : Sem Value).run Try.prog w = .ok (.int .i64 (k : Nat)) w := by
  subst hj
  have e : IntKind.i64.wrap (k : Int) = (k : Int) := by
    have h2 : (k : Int) ≤ 1000 := by omega
    simp [IntKind.wrap, IntKind.bits, IntKind.signed]
    omega
  simp [go_sem, e]
theorem run_geq_f {m n : Int} (h : m < n) (x y : Operand) (w : World) : (do eqGuard .geq 3 x y (.int .i64 m) (.int .i64 n); binOp .geq 3 (.int .i64 m) (.int .i64 n) : Sem Value).run Try.prog w = .ok (.bool false) w := by
  simp [go_sem]; omega
theorem run_lss_f {m n : Int} (h : n ≤ m) (x y : Operand) (w : World) : (do eqGuard .lss 3 x y (.int .i64 m) (.int .i64 n); binOp .lss 3 (.int .i64 m) (.int .i64 n) : Sem Value).run Try.prog w = .ok (.bool false) w := by
  simp [go_sem]; omega
theorem run_neq_f {m : Int} (x y : Operand) (w : World) : (do eqGuard .neq 3 x y (.int .i64 m) (.int .i64 m); binOp .neq 3 (.int .i64 m) (.int .i64 m) : Sem Value).run Try.prog w = .ok (.bool false) w := by
  simp [go_sem]
theorem run_from_i {b o n c k : Nat} (h : k < n) (h2 : n ≤ c) (w : World) : (Instr.sliceAt 29 (.slice (some ⟨b, o, none⟩) n c) (some (.int .i64 k)) none none).run Try.prog w = .ok (.slice (some ⟨b, o + k, none⟩) (n - k) (c - k)) w := by
  have h4 : k ≤ n := by omega
  simp [go_sem, h4]
  omega
/-- Numbers in memory of the region's own. -/
def kI (base : Nat) (l : List Int) : Rel.Kd Rel.Gr := ⟨fun w u => NewI w base u l, fun _ _ _ hg h => newI_keep h hg⟩
theorem ints_drop {b o n c : Nat} {l : List Int} (h : IntsL w (some ⟨b, o, none⟩) n c l) (k : Nat) (hk : k ≤ n) : IntsL w (some ⟨b, o + k, none⟩) (n - k) (c - k) (l.drop k) :=
  ⟨by rw [List.length_drop, h.len], Nat.sub_le_sub_right h.cap _, Nat.le_trans (Nat.sub_le _ _) h.max, (fun e => by cases e), by have := row_drop h.row k; simpa using this⟩

/-! ### What stands in a path -/

theorem path_first {X : List Fd} {F : Nat} (hF : F < X.length) : ∃ r, path X (F : Int) = (F : Int) :: r := ⟨_, path_at (List.getElem?_eq_getElem hF)⟩
theorem path_next {X : List Fd} {F j k : Nat} {p : List Int} (hp : p = path X (F : Int)) (hj : j = k + 1) (h : j < p.length) :
    ∃ y z : Nat, ∃ x, p[j]? = some (y : Int) ∧ p[k]? = some (z : Int) ∧ X[z]? = some x ∧ x.par = (y : Int) ∧ y < z ∧ path X (y : Int) = p.drop j := by
  subst hj
  rw [path_nat] at hp
  subst hp
  rw [List.length_map] at h
  obtain ⟨y, hy⟩ : ∃ y, (pathN X F)[k + 1]? = some y := ⟨_, List.getElem?_eq_getElem h⟩
  obtain ⟨z, hz⟩ : ∃ z, (pathN X F)[k]? = some z := ⟨_, List.getElem?_eq_getElem (by omega)⟩
  obtain ⟨x, h1, h2, h3⟩ := pathN_next hz hy
  refine ⟨y, z, x, by rw [List.getElem?_map, hy]; rfl, by rw [List.getElem?_map, hz]; rfl, h1, h2, h3, ?_⟩
  rw [path_nat, ← pathN_drop X F (k + 1) y hy, List.map_drop]
theorem path_end {X : List Fd} {F n : Nat} {p : List Int} (hp : p = path X (F : Int)) (hg : goodB X = true) (hF : F < X.length) (hn : p.length = n + 1) :
    ∃ k : Nat, ∃ x, p[n]? = some (k : Int) ∧ X[k]? = some x ∧ x.par = -1 := by
  rw [path_nat] at hp
  subst hp
  obtain ⟨k, y, h1, h2, h3⟩ := good_last hg (List.getElem?_eq_getElem hF)
  refine ⟨k, y, ?_, h2, h3⟩
  rw [List.length_map] at hn
  rw [List.getLast?_eq_getElem?, hn] at h1
  rw [List.getElem?_map]
  simp only [Nat.add_sub_cancel] at h1
  rw [h1]; rfl
theorem int_cell' {b o n c k : Nat} {l : List Int} {y : Int} (h : IntsL w (some ⟨b, o, none⟩) n c l) (hk : l[k]? = some y) : w.cell? ⟨b, o + k, none⟩ = some (.int .i64 y) := by
  obtain ⟨h1, h2⟩ := List.getElem?_eq_some_iff.1 hk
  rw [int_cell h h1, h2]
theorem par_cell' {b o n c k : Nat} {l : List Fd} {x : Fd} (h : Funds w (some ⟨b, o, none⟩) n c l) (hk : l[k]? = some x) : w.cell? ⟨b, o + k * 3 + 1, none⟩ = some (.int .i64 x.par) := by
  obtain ⟨h1, h2⟩ := List.getElem?_eq_some_iff.1 hk
  rw [(fund_cells h h1).2.1, h2]
end Go.Proofs.Ytpciijihedlheaa.Tre
