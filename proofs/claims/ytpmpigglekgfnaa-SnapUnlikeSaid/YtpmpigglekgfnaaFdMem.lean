/- Funds in memory; an argument's list opened. -/
import Derived.Test.YtpmpigglekgfnaaLst
namespace Go.Proofs.Ytpmpigglekgfnaa.Tre
set_option maxRecDepth 100000
open Go.RowKit
open Go.Sort
open Kit
set_option linter.unusedVariables false

structure Fd where
  name : ByteArray
  par : Int
  lim : Int
def encF (x : Fd) : List Value := [.string x.name, .int .i64 x.par, .int .i64 x.lim]
theorem encF_len (x : Fd) : (encF x).length = 3 := rfl
def Fd.ok (x : Fd) : Prop := x.name.size ≤ maxLen ∧ inI x.par ∧ inI x.lim
variable {w w' : World}
abbrev Funds := Lst encF 3
theorem fund_cells {b o n c k : Nat} {l : List Fd} (h : Funds w (some ⟨b, o, none⟩) n c l) (hk : k < l.length) :
    w.cell? ⟨b, o + k * 3, none⟩ = some (.string l[k].name) ∧ w.cell? ⟨b, o + k * 3 + 1, none⟩ = some (.int .i64 l[k].par) ∧ w.cell? ⟨b, o + k * 3 + 2, none⟩ = some (.int .i64 l[k].lim) :=
  ⟨row_cell h.row hk rfl (i := 0) (by omega), row_cell h.row hk rfl (i := 1) (by omega), row_cell h.row hk rfl (i := 2) (by omega)⟩

/-! ### Arguments -/

def RFd (cs : List Value) (x : Fd) : Prop := cs = encF x ∧ x.ok
theorem cells_fund : Try.prog.cellsOf 47 = 3 := by kernel_rfl
theorem cells_str : Try.prog.cellsOf 9 = 1 := by kernel_rfl
theorem opens_fund : Opn.Opens Try.prog w 47 RFd := by
  refine Opn.opens_struct Try.underlying47 fun cs hlen hf => ?_
  rw [cells_fund] at hlen
  match cs, hlen with
  | [c0, c1, c2], _ =>
    obtain ⟨d, h0, w0⟩ := hf 0 _ rfl _ _ (Opn.opens_str Try.underlying9)
    obtain ⟨k, h1, w1⟩ := hf 1 _ rfl _ _ (Opn.opens_int Try.underlying3)
    obtain ⟨t, h2, w2⟩ := hf 2 _ rfl _ _ (Opn.opens_int Try.underlying3)
    simp [cells_int, cells_str] at h0 h1 h2
    subst h0 h1 h2
    exact ⟨⟨d, k, t⟩, rfl, w0, i64_wf w1, i64_wf w2⟩
theorem opens_funds : Opn.Opens Try.prog w 22 (Opn.RSlice RFd 3 w) := Opn.opens_slice Try.underlying22 cells_fund (by omega) opens_fund
theorem funds_arg {a : Option Addr} {len cap : Nat} {l : List Fd} (h : Opn.RSlice RFd 3 w [.slice a len cap] l) : Funds w a len cap l ∧ ∀ x ∈ l, x.ok := by
  obtain ⟨a', len', cap', he, hl, hc, hm, hn, hcs⟩ := h
  simp at he
  obtain ⟨rfl, rfl, rfl⟩ := he
  exact ⟨⟨hl, hc, hm, hn, Kit.row_of_cells (fun _ _ h => h.1) hcs⟩, Kit.all_of_cells (fun _ _ h => h.2) hcs⟩
end Go.Proofs.Ytpmpigglekgfnaa.Tre
