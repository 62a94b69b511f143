/- Rates in memory; an argument's list opened. -/
import Derived.Test.YtpmpigglekgfnaaLst
namespace Go.Proofs.Ytpmpigglekgfnaa.Rte
set_option maxRecDepth 100000
open Go.RowKit
open Go.Sort
open Kit
open Tre
set_option linter.unusedVariables false

structure Rt where
  qos : Int
  from' : Int
  price : Int
variable {w w' : World}
def encR (r : Rt) : List Value := [.int .i64 r.qos, .int .i64 r.from', .int .i64 r.price]
theorem encR_len (g : Rt) : (encR g).length = 3 := rfl
theorem encR_one (x : Rt) : ∀ u ∈ encR x, u.oneCell' = true := by
  intro u hu
  simp [encR] at hu
  rcases hu with rfl | rfl | rfl <;> rfl
def Rt.ok (r : Rt) : Prop := inI r.qos ∧ inI r.from' ∧ inI r.price
abbrev Rates := Lst encR 3
theorem rate_cells {b o n c k : Nat} {l : List Rt} (h : Rates w (some ⟨b, o, none⟩) n c l) (hk : k < l.length) :
    w.cell? ⟨b, o + k * 3, none⟩ = some (.int .i64 l[k].qos) ∧ w.cell? ⟨b, o + k * 3 + 1, none⟩ = some (.int .i64 l[k].from') ∧ w.cell? ⟨b, o + k * 3 + 2, none⟩ = some (.int .i64 l[k].price) :=
  ⟨row_cell h.row hk rfl (i := 0) (by omega), row_cell h.row hk rfl (i := 1) (by omega), row_cell h.row hk rfl (i := 2) (by omega)⟩
def RRt (cs : List Value) (x : Rt) : Prop := cs = encR x ∧ x.ok
theorem cells_rate : Try.prog.cellsOf 52 = 3 := by kernel_rfl
theorem opens_rate : Opn.Opens Try.prog w 52 RRt := by
  refine Opn.opens_struct Try.underlying52 fun cs hlen hf => ?_
  rw [cells_rate] at hlen
  match cs, hlen with
  | [c0, c1, c2], _ =>
    obtain ⟨k0, h0, w0⟩ := hf 0 _ rfl _ _ (Opn.opens_int Try.underlying3)
    obtain ⟨k1, h1, w1⟩ := hf 1 _ rfl _ _ (Opn.opens_int Try.underlying3)
    obtain ⟨k2, h2, w2⟩ := hf 2 _ rfl _ _ (Opn.opens_int Try.underlying3)
    simp [cells_int] at h0 h1 h2
    subst h0 h1 h2
    exact ⟨⟨k0, k1, k2⟩, rfl, i64_wf w0, i64_wf w1, i64_wf w2⟩
theorem opens_rates : Opn.Opens Try.prog w 24 (Opn.RSlice RRt 3 w) := Opn.opens_slice Try.underlying24 cells_rate (by omega) opens_rate
theorem rates_arg {a : Option Addr} {len cap : Nat} {l : List Rt} (h : Opn.RSlice RRt 3 w [.slice a len cap] l) : Rates w a len cap l ∧ ∀ x ∈ l, x.ok := by
  obtain ⟨a', len', cap', he, hl, hc, hm, hn, hcs⟩ := h
  simp at he
  obtain ⟨rfl, rfl, rfl⟩ := he
  exact ⟨⟨hl, hc, hm, hn, Kit.row_of_cells (fun _ _ h => h.1) hcs⟩, Kit.all_of_cells (fun _ _ h => h.2) hcs⟩
theorem info_rate : (Try.prog.info? 52).map (fun i => (i.zero, i.size, i.bytes)) = some (some (.agg #[.int .i64 0, .int .i64 0, .int .i64 0]), 3, 24) := by kernel_rfl
end Go.Proofs.Ytpmpigglekgfnaa.Rte
