/- Legs in memory; an argument's list opened. -/
import Derived.Test.YtcoiebeehgeggaaLst
namespace Go.Proofs.Ytcoiebeehgeggaa.Led
set_option maxRecDepth 100000
open Go.RowKit
open Go.Sort
open Kit
open Tre
set_option linter.unusedVariables false

variable {w w' : World}

structure Lg where
  acct : Int
  amt : Int
def encG (g : Lg) : List Value := [.int .i64 g.acct, .int .i64 g.amt]
theorem encG_len (g : Lg) : (encG g).length = 2 := rfl
theorem encG_one (x : Lg) : ∀ u ∈ encG x, u.oneCell' = true := by
  intro u hu
  simp [encG] at hu
  rcases hu with rfl | rfl <;> rfl
def Lg.ok (g : Lg) : Prop := inI g.acct ∧ inI g.amt
abbrev Legs := Lst encG 2
theorem leg_cells {b o n c k : Nat} {l : List Lg} (h : Legs w (some ⟨b, o, none⟩) n c l) (hk : k < l.length) :
    w.cell? ⟨b, o + k * 2, none⟩ = some (.int .i64 l[k].acct) ∧ w.cell? ⟨b, o + k * 2 + 1, none⟩ = some (.int .i64 l[k].amt) :=
  ⟨row_cell h.row hk rfl (i := 0) (by omega), row_cell h.row hk rfl (i := 1) (by omega)⟩
def RLg (cs : List Value) (x : Lg) : Prop := cs = encG x ∧ x.ok
theorem cells_leg : Try.prog.cellsOf 44 = 2 := by kernel_rfl
theorem opens_leg : Opn.Opens Try.prog w 44 RLg := by
  refine Opn.opens_struct Try.underlying44 fun cs hlen hf => ?_
  rw [cells_leg] at hlen
  match cs, hlen with
  | [c0, c1], _ =>
    obtain ⟨k0, h0, w0⟩ := hf 0 _ rfl _ _ (Opn.opens_int Try.underlying3)
    obtain ⟨k1, h1, w1⟩ := hf 1 _ rfl _ _ (Opn.opens_int Try.underlying3)
    simp [cells_int] at h0 h1
    subst h0 h1
    exact ⟨⟨k0, k1⟩, rfl, i64_wf w0, i64_wf w1⟩
theorem opens_legs : Opn.Opens Try.prog w 23 (Opn.RSlice RLg 2 w) := Opn.opens_slice Try.underlying23 cells_leg (by omega) opens_leg
theorem legs_arg {a : Option Addr} {len cap : Nat} {l : List Lg} (h : Opn.RSlice RLg 2 w [.slice a len cap] l) : Legs w a len cap l ∧ ∀ x ∈ l, x.ok := by
  obtain ⟨a', len', cap', he, hl, hc, hm, hn, hcs⟩ := h
  simp at he
  obtain ⟨rfl, rfl, rfl⟩ := he
  exact ⟨⟨hl, hc, hm, hn, Kit.row_of_cells (fun _ _ h => h.1) hcs⟩, Kit.all_of_cells (fun _ _ h => h.2) hcs⟩
theorem info_leg : (Try.prog.info? 44).map (fun i => (i.zero, i.size, i.bytes)) = some (some (.agg #[.int .i64 0, .int .i64 0]), 2, 16) := by kernel_rfl
end Go.Proofs.Ytcoiebeehgeggaa.Led
