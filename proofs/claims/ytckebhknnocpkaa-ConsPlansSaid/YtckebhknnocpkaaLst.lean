/- A slice that can be read, of whatever elements; numbers of 64 bits. -/
import Derived.Test.YtckebhknnocpkaaChecked
import Derived.Test.YtckebhknnocpkaaOpens
import Derived.Test.YtckebhknnocpkaaKit
import Derived.Test.YtckebhknnocpkaaTwo
import Derived.BigFrame
import Derived.BigQuiet
import Derived.Deep.DeepCutAuto
import Derived.Deep.CutBlock
import Derived.WalkLawsBesides
import Derived.LoopTactic
import Derived.Lib.Hide
namespace Go.Proofs.Ytckebhknnocpkaa.Tre
set_option maxRecDepth 100000
open Go.RowKit
open Go.Sort
open Kit
set_option linter.unusedVariables false

abbrev inI (n : Int) : Prop := -9223372036854775808 ≤ n ∧ n ≤ 9223372036854775807
/-- A slice that can be read. -/
structure Lst {α : Type} (enc : α → List Value) (size : Nat) (w : World) (a : Option Addr) (n c : Nat) (l : List α) : Prop where
  len : l.length = n
  cap : n ≤ c
  max : c ≤ maxLen
  nil : a = none → n = 0 ∧ c = 0
  row : Kit.Row enc size w a l
variable {w w' : World}
theorem below_drewN' (w : World) (n : Nat) : Below w.heap.size w (w.drewN n) := ⟨rfl, rfl, rfl, Nat.le_refl _, fun _ _ => rfl⟩
theorem lst_keep {α : Type} {enc : α → List Value} {size n c : Nat} {a : Option Addr} {l : List α} (hs : ∀ x, (enc x).length = size) (h : Lst enc size w a n c l) (hb : Below w.heap.size w w') : Lst enc size w' a n c l := ⟨h.len, h.cap, h.max, h.nil, row_keep hs h.row hb⟩
theorem lst_take {α : Type} {enc : α → List Value} {size n c : Nat} {a : Option Addr} {l : List α} (h : Lst enc size w a n c l) (m : Nat) (hm : m ≤ n) : Lst enc size w a m c (l.take m) :=
  ⟨by rw [List.length_take, h.len]; omega, Nat.le_trans hm h.cap, h.max, fun e => ⟨by have := h.nil e; omega, (h.nil e).2⟩, row_take h.row m⟩
theorem lst_at {α : Type} {enc : α → List Value} {size n c : Nat} {a : Option Addr} {l : List α} (h : Lst enc size w a n c l) (hn : 0 < n) : ∃ b o, a = some ⟨b, o, none⟩ := by
  rcases h.row with e | ⟨b, o, e, _⟩
  · have := h.len; rw [e] at this; simp at this; omega
  · exact ⟨b, o, e⟩
theorem cells_int : Try.prog.cellsOf 3 = 1 := by kernel_rfl
theorem i64_wf {n : Int} (h : (Lit.int .i64 n).wf = true) : inI n := by
  simp [Lit.wf, IntKind.min, IntKind.max, IntKind.signed, IntKind.bits] at h
  exact h
theorem u8_in {n : Int} (h : (Lit.int .u8 n).wf = true) : 0 ≤ n ∧ n ≤ 255 := by
  simp [Lit.wf, IntKind.min, IntKind.max, IntKind.signed, IntKind.bits] at h
  omega
theorem u32_in {n : Int} (h : (Lit.int .u32 n).wf = true) : 0 ≤ n ∧ n ≤ 4294967295 := by
  simp [Lit.wf, IntKind.min, IntKind.max, IntKind.signed, IntKind.bits] at h
  omega
theorem lst_new {α : Type} {enc : α → List Value} {size : Nat} (hs : ∀ x, (enc x).length = size) (w : World) (l : List α) (A : Array Value) (T : TypeId) (n m : Nat) (hn : n = w.heap.size) (hA : A.toList = flat enc l) (hm : l.length = m) (hl : m ≤ 1000) : Lst enc size (w.alloc (.cells A T)) (some ⟨n, 0, none⟩) m m l :=
  ⟨hm, Nat.le_refl _, by unfold maxLen; omega, (fun h => by cases h), row_new hs w l A T n hn hA⟩
theorem lst_none {α : Type} (enc : α → List Value) (size : Nat) (w : World) : Lst enc size w none 0 0 ([] : List α) := ⟨rfl, Nat.le_refl _, Nat.zero_le _, fun _ => ⟨rfl, rfl⟩, .inl rfl⟩

/-! ### Single operations -/

theorem run_ld2 {w : World} {a : Addr} {x : Int} (h : w.cell? a = some (.int .i64 x)) : (Instr.loadAt 3 (.pointer (some a))).run Try.prog w = .ok (.int .i64 x) w := by
  simp [go_sem, h]
end Go.Proofs.Ytckebhknnocpkaa.Tre
