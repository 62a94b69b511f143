/- Common: bytes that are made: 'make([]byte, n)', all 0. -/
import Derived.Test.YtpmpigglekgfnaaOctByte
namespace Go.Proofs.Ytpmpigglekgfnaa.Oct
open Go.RowKit
open Go.Sort
open Kit
set_option linter.unusedVariables false
theorem run_make_b (n : Nat) (z : Int) (hz : z = (n : Int)) (hn : n ≤ 1000000) (w : World) : (Instr.makeSlice 29 (.int .i64 z) (.int .i64 z)).run Try.prog w = .ok (.slice (some ⟨w.heap.size, 0, none⟩) n n) (w.alloc (.cells (madeCells #[.int .u8 0] n) 5)) := by
  subst hz
  obtain ⟨i0, hi, hz0, hz1, hz2⟩ := info_parts info8
  have := run_make (P := Try.prog) w 29 5 i0 (.int .u8 0) Try.underlying29 hi hz0 .i64 .i64 n n (by omega) (by omega) (by rw [hz2]; omega) (by omega)
  rw [hz1, Nat.mul_one] at this
  exact this
theorem made_b (n : Nat) : (madeCells #[Value.int .u8 0] n).toList = cellsB (List.replicate n 0) := by
  apply List.ext_getElem
  · simp [madeCells, cellsB]
  · intro i h1 h2
    simp [madeCells, cellsB, Nat.mod_one]
theorem own_made_b (w : World) (base n : Nat) (hb : base ≤ w.heap.size) (hn : n ≤ maxLen) : OwnB (w.alloc (.cells (madeCells #[.int .u8 0] n) 5)) base (.slice (some ⟨w.heap.size, 0, none⟩) n n) (List.replicate n 0) := by
  refine own_iff.2 ⟨by rw [cellsB_length, Nat.mul_one], .inr ⟨_, n, _, by rw [List.length_replicate], hb, heap_alloc_new w _, by rw [List.length_replicate]; exact Nat.le_refl _, hn, by rw [size_madeCells, Nat.mul_one], ?_⟩⟩
  rw [made_b, List.length_replicate, Nat.mul_one, List.take_of_length_le]
  rw [cellsB_length, List.length_replicate]; exact Nat.le_refl _
theorem own_lt {w : World} {base g n c : Nat} {l : List UInt8} (h : OwnB w base (.slice (some ⟨g, 0, none⟩) n c) l) : base ≤ g ∧ g < w.heap.size := World.ownsRow.lt h g rfl
theorem own_le {w : World} {base base' : Nat} {v : Value} {l : List UInt8} (h : OwnB w base v l) (hb : base' ≤ base) : OwnB w base' v l := ⟨h.1, h.2.imp id fun ⟨g, cap, cur, h1, h2, h3⟩ => ⟨g, cap, cur, h1, Nat.le_trans hb h2, h3⟩⟩
theorem run_cut (a : Option Addr) (n m c : Nat) (h1 : m ≤ n) (h2 : n ≤ c) (w : World) : (Instr.sliceAt 29 (.slice a n c) none (some (.int .i64 m)) none).run Try.prog w = .ok (.slice a m c) w := by
  simp [go_sem]
  intro h; omega
theorem run_cv_byte (x : UInt8) (w : World) : (convert 5 3 (.int .u8 (x.toNat : Int))).run Try.prog w = .ok (.int .i64 (x.toNat : Int)) w := by
  have := x.toNat_lt
  simp [go_sem]
  rw [IntKind.wrap_i64]; omega
theorem run_ld_byte {w : World} {a : Addr} {x : UInt8} (h : w.cell? a = some (.int .u8 (x.toNat : Int))) : (Instr.loadAt 5 (.pointer (some a))).run Try.prog w = .ok (.int .u8 (x.toNat : Int)) w := by
  simp [go_sem, h]
theorem run_at_b (b o n c k : Nat) (h : k < n) (w : World) : (Instr.indexAt 29 (.slice (some ⟨b, o, none⟩) n c) (.int .i64 (k : Nat))).run Try.prog w = .ok (.pointer (some ⟨b, o + k, none⟩)) w := by
  simp [go_sem]
  omega
/-- Byte k of a list in memory. -/
theorem byte_at {w : World} {b o k : Nat} {l : List UInt8} (h : RowB w (some ⟨b, o, none⟩) l) (hk : k < l.length) : w.cell? ⟨b, o + k, none⟩ = some (.int .u8 ((l.getD k 0).toNat : Int)) := by
  have := row_cell h hk rfl (i := 0) (by omega)
  simp only [encB, Nat.add_zero, Nat.mul_one, List.getElem?_cons_zero] at this
  rw [this]
  simp [List.getD, hk]
theorem row_at {w : World} {a : Option Addr} {l : List UInt8} (h : RowB w a l) (hl : 0 < l.length) : ∃ b o, a = some ⟨b, o, none⟩ := by
  rcases h with h | ⟨b, o, e, _⟩
  · rw [h] at hl; cases hl
  · exact ⟨b, o, e⟩
/-- A list of the call's own that is not empty: where it lies. -/
theorem own_form {w : World} {base : Nat} {v : Value} {l : List UInt8} (h : OwnB w base v l) (hl : 0 < l.length) : ∃ g c, v = .slice (some ⟨g, 0, none⟩) l.length c ∧ RowB w (some ⟨g, 0, none⟩) l ∧ base ≤ g ∧ g < w.heap.size ∧ l.length ≤ c ∧ c ≤ maxLen := by
  obtain ⟨a, c, rfl, h1, h2, h3, h4⟩ := own_row h
  rcases h.2 with ⟨e, _⟩ | ⟨g, cap, cur, e, h5, h6, _⟩
  · injection e with e
    have := h3 e; omega
  · injection e with e
    subst e
    exact ⟨g, c, rfl, h4, h5, (Array.getElem?_eq_some_iff.1 h6).1, h1, h2⟩
/-- Bytes that were made, or none: in memory that is new. -/
def NewB (w : World) (base : Nat) (v : Value) (l : List UInt8) : Prop := ∃ a cap, v = .slice a l.length cap ∧ l.length ≤ cap ∧ cap ≤ maxLen ∧ (a = none → l.length = 0 ∧ cap = 0) ∧ RowB w a l ∧ ∀ q, a = some q → base ≤ q.block ∧ q.block < w.heap.size
theorem new_own {w : World} {base : Nat} {v : Value} {l : List UInt8} (h : OwnB w base v l) : NewB w base v l := by
  obtain ⟨a, c, rfl, h1, h2, h3, h4⟩ := own_row h
  refine ⟨a, c, rfl, h1, h2, fun e => ⟨by have := h3 e; omega, h3 e⟩, h4, fun q hq => ?_⟩
  subst hq
  exact World.ownsRow.lt h q.block rfl
theorem new_nil (w : World) (base : Nat) : NewB w base (.slice none 0 0) [] := ⟨none, 0, rfl, Nat.le_refl _, by unfold maxLen; omega, fun _ => ⟨rfl, rfl⟩, .inl rfl, fun q hq => by cases hq⟩
end Go.Proofs.Ytpmpigglekgfnaa.Oct
