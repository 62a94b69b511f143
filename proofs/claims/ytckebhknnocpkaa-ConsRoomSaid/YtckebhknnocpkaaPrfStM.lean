/- Profile: single operations at steps (no document's function). -/
import Derived.Test.YtckebhknnocpkaaPrfMem
import Derived.Test.YtckebhknnocpkaaRegRel
namespace Go.Proofs.Ytckebhknnocpkaa.Prf
set_option maxRecDepth 100000
open Go.RowKit
open Go.Sort
open Kit
open Tre (Lst inI lst_keep lst_take lst_at lst_new lst_none below_drewN' encI encI_len encI_one OwI IntsL int_cell own_chg' owns_lit lit_row info_i run_ld2)
set_option linter.unusedVariables false
variable {w w' : World}

theorem run_ii {b o n c k : Nat} (h : k < n) (w : World) : (Instr.indexAt 28 (.slice (some ⟨b, o, none⟩) n c) (.int .i64 (k : Nat))).run Try.prog w = .ok (.pointer (some ⟨b, o + k, none⟩)) w := by
  simp [go_sem, h]
theorem run_bd_s (x y : Int) (w : World) : (Instr.build 57 #[(0, .int .i64 x), (1, .int .i64 y)]).run Try.prog w = .ok (.agg #[.int .i64 x, .int .i64 y]) w := by
  simp [go_sem]
theorem run_bs_s (x y : Int) (w : World) : (Instr.buildSlice 47 1 #[(0, .agg #[.int .i64 x, .int .i64 y])]).run Try.prog w = .ok (.slice (some ⟨w.heap.size, 0, none⟩) 1 1) (w.alloc (.cells #[.int .i64 x, .int .i64 y] 57)) := by
  simp [go_sem]
theorem row_s (w : World) (s : St) : Kit.Row encS 2 (w.alloc (.cells #[.int .i64 s.tick, .int .i64 s.free] 57)) (some ⟨w.heap.size, 0, none⟩) [s] := row_new encS_len w [s] _ _ _ rfl rfl
def kLitS (s : St) : Rel.Kd Rel.Gr := ⟨fun w u => ∃ B, u = .slice (some ⟨B, 0, none⟩) 1 1 ∧ Kit.Row encS 2 w (some ⟨B, 0, none⟩) [s], fun _ _ _ h ⟨B, e, hr⟩ => ⟨B, e, row_keep encS_len hr h⟩⟩
theorem own_keepS {base : Nat} {v : Value} {l : List St} (h : OwS w base v l) (hb : Below w.heap.size w w') : OwS w' base v l := Nest.own_on h hb
theorem own_emptyS (w : World) (base : Nat) (hb : base ≤ w.heap.size) : OwS (w.alloc (.cells #[] 57)) base (.slice (some ⟨w.heap.size, 0, none⟩) 0 0) [] :=
  ⟨by simp [flat], .inr ⟨w.heap.size, 0, _, rfl, hb, heap_alloc_new w _, Nat.le_refl _, by unfold maxLen; omega, by simp, by simp [flat]⟩⟩
end Go.Proofs.Ytckebhknnocpkaa.Prf
