/- Profile: steps and what is busy in memory; arguments opened. -/
import Derived.Test.YtckebhknnocpkaaPrfFit
import Derived.Test.YtckebhknnocpkaaIntMem
import Derived.Test.YtckebhknnocpkaaNest
namespace Go.Proofs.Ytckebhknnocpkaa.Prf
set_option maxRecDepth 100000
open Go.RowKit
open Go.Sort
open Kit
open Tre (Lst inI lst_keep lst_take lst_at lst_new lst_none i64_wf cells_int)
set_option linter.unusedVariables false
variable {w w' : World}

def encS (s : St) : List Value := [.int .i64 s.tick, .int .i64 s.free]
theorem encS_len (s : St) : (encS s).length = 2 := rfl
theorem encS_one (x : St) : ∀ u ∈ encS x, u.oneCell' = true := by
  intro u hu
  simp [encS] at hu
  rcases hu with rfl | rfl <;> rfl
abbrev Steps := Lst encS 2
theorem step_cells {b o n c k : Nat} {l : List St} (h : Steps w (some ⟨b, o, none⟩) n c l) (hk : k < l.length) :
    w.cell? ⟨b, o + k * 2, none⟩ = some (.int .i64 l[k].tick) ∧ w.cell? ⟨b, o + k * 2 + 1, none⟩ = some (.int .i64 l[k].free) :=
  ⟨row_cell h.row hk rfl (i := 0) (by omega), row_cell h.row hk rfl (i := 1) (by omega)⟩
theorem info_step : (Try.prog.info? 57).map (fun i => (i.zero, i.size, i.bytes)) = some (some (.agg #[.int .i64 0, .int .i64 0]), 2, 16) := by kernel_rfl
abbrev OwS (w : World) (base : Nat) (v : Value) (l : List St) : Prop := Owns encS 2 57 w base v l
theorem own_steps {base : Nat} {v : Value} {l : List St} (h : OwS w base v l) : ∃ a c, v = .slice a l.length c ∧ Steps w a l.length c l := by
  obtain ⟨a, c, hv, hc, hm, hn, hrow⟩ := owns_row encS_len h
  exact ⟨a, c, hv, rfl, hc, hm, fun e => ⟨by have := hn e; omega, hn e⟩, hrow⟩
def encZ (b : Bz) : List Value := [.int .i64 b.till, .int .i64 b.nodes]
theorem encZ_len (b : Bz) : (encZ b).length = 2 := rfl
theorem encZ_one (x : Bz) : ∀ u ∈ encZ x, u.oneCell' = true := by
  intro u hu
  simp [encZ] at hu
  rcases hu with rfl | rfl <;> rfl
abbrev Busys := Lst encZ 2
theorem busy_cells {b o n c k : Nat} {l : List Bz} (h : Busys w (some ⟨b, o, none⟩) n c l) (hk : k < l.length) :
    w.cell? ⟨b, o + k * 2, none⟩ = some (.int .i64 l[k].till) ∧ w.cell? ⟨b, o + k * 2 + 1, none⟩ = some (.int .i64 l[k].nodes) :=
  ⟨row_cell h.row hk rfl (i := 0) (by omega), row_cell h.row hk rfl (i := 1) (by omega)⟩
theorem info_busy : (Try.prog.info? 36).map (fun i => (i.zero, i.size, i.bytes)) = some (some (.agg #[.int .i64 0, .int .i64 0]), 2, 16) := by kernel_rfl
def Bz.ok (b : Bz) : Prop := inI b.till ∧ inI b.nodes
def RBz (cs : List Value) (x : Bz) : Prop := cs = encZ x ∧ x.ok
theorem cells_busy : Try.prog.cellsOf 36 = 2 := by kernel_rfl
theorem opens_busy : Opn.Opens Try.prog w 36 RBz := by
  refine Opn.opens_struct Try.underlying36 fun cs hlen hf => ?_
  rw [cells_busy] at hlen
  match cs, hlen with
  | [c0, c1], _ =>
    obtain ⟨k0, h0, w0⟩ := hf 0 _ rfl _ _ (Opn.opens_int Try.underlying3)
    obtain ⟨k1, h1, w1⟩ := hf 1 _ rfl _ _ (Opn.opens_int Try.underlying3)
    simp [cells_int] at h0 h1
    subst h0 h1
    exact ⟨⟨k0, k1⟩, rfl, i64_wf w0, i64_wf w1⟩
theorem opens_busys : Opn.Opens Try.prog w 22 (Opn.RSlice RBz 2 w) := Opn.opens_slice Try.underlying22 cells_busy (by omega) opens_busy
theorem busys_arg {a : Option Addr} {len cap : Nat} {l : List Bz} (h : Opn.RSlice RBz 2 w [.slice a len cap] l) : Busys w a len cap l ∧ ∀ x ∈ l, x.ok := by
  obtain ⟨a', len', cap', he, hl, hc, hm, hn, hcs⟩ := h
  simp at he
  obtain ⟨rfl, rfl, rfl⟩ := he
  exact ⟨⟨hl, hc, hm, hn, Kit.row_of_cells (fun _ _ h => h.1) hcs⟩, Kit.all_of_cells (fun _ _ h => h.2) hcs⟩

/-! ### What may be -/

/-- Ticks from 0 to 2^50, nodes from 0 to 2^20. -/
def Tk (t : Int) : Prop := 0 ≤ t ∧ t ≤ 1125899906842624
def Nd (n : Int) : Prop := 0 ≤ n ∧ n ≤ 1048576
def Bz.may (b : Bz) : Prop := Tk b.till ∧ Nd b.nodes
/-- A profile's steps: rising ticks, and what is free, not too much of it. -/
structure Pf (p : List St) : Prop where
  norm : Norm p
  len : p.length ≤ 1000
  tick : ∀ s ∈ p, Tk s.tick
  free : ∀ s ∈ p, -1099511627776 ≤ s.free ∧ s.free ≤ 1099511627776
theorem busy_take {l : List Bz} {k : Nat} {x : Bz} (t : Int) (h : l[k]? = some x) : busyN (l.take (k + 1)) t = busyN (l.take k) t + (if t < x.till then x.nodes else 0) := by
  obtain ⟨hk, e⟩ := List.getElem?_eq_some_iff.1 h
  rw [List.take_succ_eq_append_getElem hk, e, busyN_snoc]
theorem busy_bound {l : List Bz} (h : ∀ b ∈ l, b.may) (k : Nat) (hk : k ≤ 1000) (t : Int) : 0 ≤ busyN (l.take k) t ∧ busyN (l.take k) t ≤ 1048576000 := by
  obtain ⟨h1, h2⟩ := busyN_le (K := 1048576) (by omega) (t := t) (l := l.take k) fun b hb => (h b (List.mem_of_mem_take hb)).2
  refine ⟨h1, Int.le_trans h2 ?_⟩
  have : (l.take k).length ≤ 1000 := by rw [List.length_take]; omega
  have h3 : ((l.take k).length : Int) * 1048576 ≤ 1000 * 1048576 := Int.mul_le_mul_of_nonneg_right (by omega) (by omega)
  omega
end Go.Proofs.Ytckebhknnocpkaa.Prf
