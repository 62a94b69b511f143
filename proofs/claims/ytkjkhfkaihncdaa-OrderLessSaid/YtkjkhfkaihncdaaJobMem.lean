/- Jobs in memory; an argument's list opened. -/
import Derived.Test.YtkjkhfkaihncdaaDwMem
namespace Go.Proofs.Ytkjkhfkaihncdaa.Job
set_option maxRecDepth 100000
open Go.RowKit
open Go.Sort
open Kit
open Tre (Lst inI lst_keep lst_take lst_at lst_new lst_none i64_wf cells_int)
open Drw (Dw encD encD_len Draws opens_draws draws_arg)
set_option linter.unusedVariables false
variable {w w' : World}

structure Jb where
  id : Int
  fund : Int
  nodes : Int
  wall : Int
  qos : Int
  prio : Int
  price : Int
  state : Int
  start : Int
  mask : Int
  used : Int
  draws : List Dw
def Jb.ok (t : Jb) : Prop := inI t.id ∧ inI t.fund ∧ inI t.nodes ∧ inI t.wall ∧ inI t.qos ∧ inI t.prio ∧ inI t.price ∧ inI t.state ∧ inI t.start ∧ inI t.mask ∧ inI t.used ∧ ∀ d ∈ t.draws, d.ok
/-- A job where it lies. -/
structure Jv where
  t : Jb
  a : Option Addr
  n : Nat
  c : Nat
def encJ (x : Jv) : List Value := [.int .i64 x.t.id, .int .i64 x.t.fund, .int .i64 x.t.nodes, .int .i64 x.t.wall, .int .i64 x.t.qos, .int .i64 x.t.prio, .int .i64 x.t.price, .int .i64 x.t.state, .int .i64 x.t.start, .int .i64 x.t.mask, .int .i64 x.t.used, .slice x.a x.n x.c]
abbrev valJ (x : Jv) : Value := .agg #[.int .i64 x.t.id, .int .i64 x.t.fund, .int .i64 x.t.nodes, .int .i64 x.t.wall, .int .i64 x.t.qos, .int .i64 x.t.prio, .int .i64 x.t.price, .int .i64 x.t.state, .int .i64 x.t.start, .int .i64 x.t.mask, .int .i64 x.t.used, .slice x.a x.n x.c]
theorem encJ_len (x : Jv) : (encJ x).length = 12 := rfl
theorem encJ_one (x : Jv) : ∀ u ∈ encJ x, u.oneCell' = true := by
  intro u hu
  simp [encJ] at hu
  rcases hu with rfl | rfl | rfl | rfl | rfl | rfl | rfl | rfl | rfl | rfl | rfl | rfl <;> rfl
def Jv.In (x : Jv) (w : World) : Prop := Draws w x.a x.n x.c x.t.draws
theorem job_keep {x : Jv} (h : x.In w) (hb : Below w.heap.size w w') : x.In w' := lst_keep encD_len h hb
def RJb (w : World) (cs : List Value) (x : Jv) : Prop := cs = encJ x ∧ x.In w ∧ x.t.ok
abbrev Jobs := Lst encJ 12
theorem job_cell {b o n c k : Nat} {l : List Jv} (h : Jobs w (some ⟨b, o, none⟩) n c l) (hk : k < l.length) (i : Nat) (hi : i < 12) : w.cell? ⟨b, o + k * 12 + i, none⟩ = (encJ l[k])[i]? := by
  have := row_cell h.row hk rfl (i := i) hi
  exact this
theorem cells_job : Try.prog.cellsOf 32 = 12 := by kernel_rfl
theorem cells_draws : Try.prog.cellsOf 30 = 1 := by kernel_rfl
theorem opens_job : Opn.Opens Try.prog w 32 (RJb w) := by
  refine Opn.opens_struct Try.underlying32 fun cs hlen hf => ?_
  rw [cells_job] at hlen
  match cs, hlen with
  | [d0, d1, d2, d3, d4, d5, d6, d7, d8, d9, d10, d11], _ =>
    obtain ⟨k0, h0, w0⟩ := hf 0 _ rfl _ _ (Opn.opens_int Try.underlying3)
    obtain ⟨k1, h1, w1⟩ := hf 1 _ rfl _ _ (Opn.opens_int Try.underlying3)
    obtain ⟨k2, h2, w2⟩ := hf 2 _ rfl _ _ (Opn.opens_int Try.underlying3)
    obtain ⟨k3, h3, w3⟩ := hf 3 _ rfl _ _ (Opn.opens_int Try.underlying3)
    obtain ⟨k4, h4, w4⟩ := hf 4 _ rfl _ _ (Opn.opens_int Try.underlying3)
    obtain ⟨k5, h5, w5⟩ := hf 5 _ rfl _ _ (Opn.opens_int Try.underlying3)
    obtain ⟨k6, h6, w6⟩ := hf 6 _ rfl _ _ (Opn.opens_int Try.underlying3)
    obtain ⟨k7, h7, w7⟩ := hf 7 _ rfl _ _ (Opn.opens_int Try.underlying3)
    obtain ⟨k8, h8, w8⟩ := hf 8 _ rfl _ _ (Opn.opens_int Try.underlying3)
    obtain ⟨k9, h9, w9⟩ := hf 9 _ rfl _ _ (Opn.opens_int Try.underlying3)
    obtain ⟨k10, h10, w10⟩ := hf 10 _ rfl _ _ (Opn.opens_int Try.underlying3)
    obtain ⟨k11, h11⟩ := hf 11 _ rfl _ _ opens_draws
    simp [cells_int, cells_draws] at h0 h1 h2 h3 h4 h5 h6 h7 h8 h9 h10 h11
    obtain ⟨a5, n5, c5, e5, -⟩ := id h11
    injection e5 with e5
    subst h0 h1 h2 h3 h4 h5 h6 h7 h8 h9 h10 e5
    obtain ⟨g5, o5⟩ := draws_arg h11
    exact ⟨⟨⟨k0, k1, k2, k3, k4, k5, k6, k7, k8, k9, k10, k11⟩, a5, n5, c5⟩, rfl, g5, i64_wf w0, i64_wf w1, i64_wf w2, i64_wf w3, i64_wf w4, i64_wf w5, i64_wf w6, i64_wf w7, i64_wf w8, i64_wf w9, i64_wf w10, o5⟩
theorem opens_jobs : Opn.Opens Try.prog w 22 (Opn.RSlice (RJb w) 12 w) := Opn.opens_slice Try.underlying22 cells_job (by omega) opens_job
theorem jobs_arg {a : Option Addr} {len cap : Nat} {l : List Jv} (h : Opn.RSlice (RJb w) 12 w [.slice a len cap] l) : Jobs w a len cap l ∧ (∀ x ∈ l, x.In w) ∧ ∀ x ∈ l, x.t.ok := by
  obtain ⟨a', len', cap', he, hl, hc, hm, hn, hcs⟩ := h
  simp at he
  obtain ⟨rfl, rfl, rfl⟩ := he
  exact ⟨⟨hl, hc, hm, hn, Kit.row_of_cells (fun _ _ h => h.1) hcs⟩, Kit.all_of_cells (fun _ _ h => h.2.1) hcs, Kit.all_of_cells (fun _ _ h => h.2.2) hcs⟩
end Go.Proofs.Ytkjkhfkaihncdaa.Job
