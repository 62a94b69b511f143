/- Draws in memory; an argument's list opened. -/
import Derived.Test.YtkjkhfkaihncdaaLst
namespace Go.Proofs.Ytkjkhfkaihncdaa.Drw
set_option maxRecDepth 100000
open Go.RowKit
open Go.Sort
open Kit
open Tre (Lst inI lst_keep lst_take lst_at lst_new lst_none i64_wf cells_int)
set_option linter.unusedVariables false
variable {w w' : World}

structure Dw where
  alloc : Int
  amt : Int
def encD (d : Dw) : List Value := [.int .i64 d.alloc, .int .i64 d.amt]
theorem encD_len (d : Dw) : (encD d).length = 2 := rfl
theorem encD_one (x : Dw) : ∀ u ∈ encD x, u.oneCell' = true := by
  intro u hu
  simp [encD] at hu
  rcases hu with rfl | rfl <;> rfl
def Dw.ok (d : Dw) : Prop := inI d.alloc ∧ inI d.amt
abbrev Draws := Lst encD 2
theorem draw_cells {b o n c k : Nat} {l : List Dw} (h : Draws w (some ⟨b, o, none⟩) n c l) (hk : k < l.length) :
    w.cell? ⟨b, o + k * 2, none⟩ = some (.int .i64 l[k].alloc) ∧ w.cell? ⟨b, o + k * 2 + 1, none⟩ = some (.int .i64 l[k].amt) :=
  ⟨row_cell h.row hk rfl (i := 0) (by omega), row_cell h.row hk rfl (i := 1) (by omega)⟩
def RDw (cs : List Value) (x : Dw) : Prop := cs = encD x ∧ x.ok
theorem cells_draw : Try.prog.cellsOf 63 = 2 := by kernel_rfl
theorem opens_draw : Opn.Opens Try.prog w 63 RDw := by
  refine Opn.opens_struct Try.underlying63 fun cs hlen hf => ?_
  rw [cells_draw] at hlen
  match cs, hlen with
  | [c0, c1], _ =>
    obtain ⟨k0, h0, w0⟩ := hf 0 _ rfl _ _ (Opn.opens_int Try.underlying3)
    obtain ⟨k1, h1, w1⟩ := hf 1 _ rfl _ _ (Opn.opens_int Try.underlying3)
    simp [cells_int] at h0 h1
    subst h0 h1
    exact ⟨⟨k0, k1⟩, rfl, i64_wf w0, i64_wf w1⟩
theorem opens_draws : Opn.Opens Try.prog w 30 (Opn.RSlice RDw 2 w) := Opn.opens_slice Try.underlying30 cells_draw (by omega) opens_draw
theorem draws_arg {a : Option Addr} {len cap : Nat} {l : List Dw} (h : Opn.RSlice RDw 2 w [.slice a len cap] l) : Draws w a len cap l ∧ ∀ x ∈ l, x.ok := by
  obtain ⟨a', len', cap', he, hl, hc, hm, hn, hcs⟩ := h
  simp at he
  obtain ⟨rfl, rfl, rfl⟩ := he
  exact ⟨⟨hl, hc, hm, hn, Kit.row_of_cells (fun _ _ h => h.1) hcs⟩, Kit.all_of_cells (fun _ _ h => h.2) hcs⟩
theorem info_draw : (Try.prog.info? 63).map (fun i => (i.zero, i.size, i.bytes)) = some (some (.agg #[.int .i64 0, .int .i64 0]), 2, 16) := by kernel_rfl
theorem draw_row (w : World) (x y : Int) : Kit.Row encD 2 (w.alloc (.cells #[.int .i64 x, .int .i64 y] 63)) (some ⟨w.heap.size, 0, none⟩) [⟨x, y⟩] := row_new encD_len w [⟨x, y⟩] _ _ _ rfl rfl
end Go.Proofs.Ytkjkhfkaihncdaa.Drw
