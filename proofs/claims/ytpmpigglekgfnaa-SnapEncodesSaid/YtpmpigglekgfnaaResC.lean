/- Common: a block of cells that is overwritten; a result in a cell beside one in a slot. -/
import Derived.Test.YtpmpigglekgfnaaFoot
import Derived.Laws.ResultCell
namespace Go.Proofs.Ytpmpigglekgfnaa.Foot
open Go.RowKit
open Go.Sort
open Kit
set_option linter.unusedVariables false

theorem wpList_store_own {P : Program} {ops : Array Oper} {rest : List Oper} {o : Oper} {a : Act} {w : World} {Q : Exit → Act → World → Prop} (hgd : o.guard = none) (ty : TypeId) (x y : Operand) (ho : o.op = .store ty x y)
    (g : Nat) (ds : List Value) (hx : a.eval x = .pointer (some ⟨g, 0, none⟩)) (hy : a.eval y = .agg ds.toArray) (cs : List Value) (t : TypeId) (hB : Arr.Blk w g t cs) (hi : (P.info? ty).map (·.size) = some ds.length)
    (hold : cs.length = ds.length) (h1 : ds.all (·.oneCell') = true)
    (h : ∀ w', Arr.Blk w' g t ds → Chg (fun k => k = g) w w' → w'.heap.size = w.heap.size → wpList P ops Q rest (a.put o.dst undef) w') : wpList P ops Q (o :: rest) a w :=
  wpList_store_row hgd ty x y ho g ds.toArray hx hy t cs.toArray hB (by simpa using hi) (by simpa using hold) (by simpa using h1) (h _ (Arr.blk_row hB ds) (chg_row (F := fun k => k = g) (chg_refl _ _) (.inl rfl) _) (setRow_size _ _ _))
theorem results_cell_row2 {P : Program} {fn : Func} {p u : Tmp} {ty : TypeId} (h : fn.results = #[.cell p ty, .tmp u]) (tmps : Array Value) (w : World) (g : Nat) (t : TypeId) (cs : List Value) (d : TypeDesc)
    (hp : tmps.getD p undef = .pointer (some ⟨g, 0, none⟩)) (hg : Arr.Blk w g t cs) (hu : P.underlying ty = some d) (hd : (match d with | .struct _ | .array _ _ => true | _ => false) = true) (hi : (P.info? ty).map (·.size) = some cs.length) :
    (results fn tmps).run P w = .ok (.tuple #[.agg cs.toArray, tmps.getD u undef]) w := by
  rw [results_cell_tmp h, hp]
  simp [asAddr, Result.andThen, run_loadVar_row w g t ty cs.toArray (0, 0) d hg hu hd (by simpa using hi)]
end Go.Proofs.Ytpmpigglekgfnaa.Foot
