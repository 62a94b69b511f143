/- Allocations in memory; an argument's list opened. -/
import Derived.Test.YtpmpigglekgfnaaLst
namespace Go.Proofs.Ytpmpigglekgfnaa.Tre
set_option maxRecDepth 100000
open Go.RowKit
open Go.Sort
open Kit
set_option linter.unusedVariables false

structure Al where
  fund : Int
  from' : Int
  till : Int
  avail : Int
  lien : Int
  spent : Int
def encL (a : Al) : List Value := [.int .i64 a.fund, .int .i64 a.from', .int .i64 a.till, .int .i64 a.avail, .int .i64 a.lien, .int .i64 a.spent]
theorem encL_len (x : Al) : (encL x).length = 6 := rfl
def Al.ok (a : Al) : Prop := inI a.fund ∧ inI a.from' ∧ inI a.till ∧ inI a.avail ∧ inI a.lien ∧ inI a.spent
variable {w w' : World}
abbrev Allocs := Lst encL 6
theorem alloc_cells {b o n c k : Nat} {l : List Al} (h : Allocs w (some ⟨b, o, none⟩) n c l) (hk : k < l.length) :
    w.cell? ⟨b, o + k * 6, none⟩ = some (.int .i64 l[k].fund) ∧ w.cell? ⟨b, o + k * 6 + 4, none⟩ = some (.int .i64 l[k].lien) ∧ w.cell? ⟨b, o + k * 6 + 5, none⟩ = some (.int .i64 l[k].spent) :=
  ⟨row_cell h.row hk rfl (i := 0) (by omega), row_cell h.row hk rfl (i := 4) (by omega), row_cell h.row hk rfl (i := 5) (by omega)⟩
theorem alloc_cells6 {b o n c k : Nat} {l : List Al} (h : Allocs w (some ⟨b, o, none⟩) n c l) (hk : k < l.length) :
    w.cell? ⟨b, o + k * 6, none⟩ = some (.int .i64 l[k].fund) ∧ w.cell? ⟨b, o + k * 6 + 1, none⟩ = some (.int .i64 l[k].from') ∧ w.cell? ⟨b, o + k * 6 + 2, none⟩ = some (.int .i64 l[k].till) ∧ w.cell? ⟨b, o + k * 6 + 3, none⟩ = some (.int .i64 l[k].avail) ∧ w.cell? ⟨b, o + k * 6 + 4, none⟩ = some (.int .i64 l[k].lien) ∧ w.cell? ⟨b, o + k * 6 + 5, none⟩ = some (.int .i64 l[k].spent) :=
  ⟨row_cell h.row hk rfl (i := 0) (by omega), row_cell h.row hk rfl (i := 1) (by omega), row_cell h.row hk rfl (i := 2) (by omega), row_cell h.row hk rfl (i := 3) (by omega), row_cell h.row hk rfl (i := 4) (by omega), row_cell h.row hk rfl (i := 5) (by omega)⟩
theorem fund_cell' {b o n c k : Nat} {l : List Al} {x : Al} (h : Allocs w (some ⟨b, o, none⟩) n c l) (hk : l[k]? = some x) : w.cell? ⟨b, o + k * 6, none⟩ = some (.int .i64 x.fund) := by
  obtain ⟨h1, h2⟩ := List.getElem?_eq_some_iff.1 hk
  rw [(alloc_cells6 h h1).1, h2]

/-! ### Arguments -/

def RAl (cs : List Value) (x : Al) : Prop := cs = encL x ∧ x.ok
theorem cells_alloc : Try.prog.cellsOf 50 = 6 := by kernel_rfl
theorem opens_alloc : Opn.Opens Try.prog w 50 RAl := by
  refine Opn.opens_struct Try.underlying50 fun cs hlen hf => ?_
  rw [cells_alloc] at hlen
  match cs, hlen with
  | [c0, c1, c2, c3, c4, c5], _ =>
    obtain ⟨k0, h0, w0⟩ := hf 0 _ rfl _ _ (Opn.opens_int Try.underlying3)
    obtain ⟨k1, h1, w1⟩ := hf 1 _ rfl _ _ (Opn.opens_int Try.underlying3)
    obtain ⟨k2, h2, w2⟩ := hf 2 _ rfl _ _ (Opn.opens_int Try.underlying3)
    obtain ⟨k3, h3, w3⟩ := hf 3 _ rfl _ _ (Opn.opens_int Try.underlying3)
    obtain ⟨k4, h4, w4⟩ := hf 4 _ rfl _ _ (Opn.opens_int Try.underlying3)
    obtain ⟨k5, h5, w5⟩ := hf 5 _ rfl _ _ (Opn.opens_int Try.underlying3)
    simp [cells_int] at h0 h1 h2 h3 h4 h5
    subst h0 h1 h2 h3 h4 h5
    exact ⟨⟨k0, k1, k2, k3, k4, k5⟩, rfl, i64_wf w0, i64_wf w1, i64_wf w2, i64_wf w3, i64_wf w4, i64_wf w5⟩
theorem opens_allocs : Opn.Opens Try.prog w 23 (Opn.RSlice RAl 6 w) := Opn.opens_slice Try.underlying23 cells_alloc (by omega) opens_alloc
theorem allocs_arg {a : Option Addr} {len cap : Nat} {l : List Al} (h : Opn.RSlice RAl 6 w [.slice a len cap] l) : Allocs w a len cap l ∧ ∀ x ∈ l, x.ok := by
  obtain ⟨a', len', cap', he, hl, hc, hm, hn, hcs⟩ := h
  simp at he
  obtain ⟨rfl, rfl, rfl⟩ := he
  exact ⟨⟨hl, hc, hm, hn, Kit.row_of_cells (fun _ _ h => h.1) hcs⟩, Kit.all_of_cells (fun _ _ h => h.2) hcs⟩

/-! ### Lists of the call's own -/

theorem encL_one (x : Al) : ∀ u ∈ encL x, u.oneCell' = true := by
  intro u hu
  simp [encL] at hu
  rcases hu with rfl | rfl | rfl | rfl | rfl | rfl <;> rfl
theorem info_al : (Try.prog.info? 50).map (fun i => (i.zero, i.size, i.bytes)) = some (some (.agg #[.int .i64 0, .int .i64 0, .int .i64 0, .int .i64 0, .int .i64 0, .int .i64 0]), 6, 48) := by kernel_rfl
end Go.Proofs.Ytpmpigglekgfnaa.Tre
