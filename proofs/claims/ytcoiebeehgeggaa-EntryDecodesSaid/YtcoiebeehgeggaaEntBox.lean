/- Entry: a transaction in a box; what stands ahead of Encode and Decode, the document's or the landed ones. -/
import Derived.Test.YtcoiebeehgeggaaEntMem
import Derived.BigFrame
import Derived.BigQuiet
import Derived.Deep.DeepCutAuto
import Derived.Deep.CutBlock
import Derived.WalkLawsBesides
import Derived.LoopTactic
namespace Go.Proofs.Ytcoiebeehgeggaa.Ent
set_option maxRecDepth 100000
open Go.RowKit
open Go.Sort
open Kit
open Oct
open Tre (Lst inI lst_keep lst_take lst_at lst_new lst_none i64_wf cells_int IntsL int_cell encI encI_len encI_one OwI own_chg' info_i run_ld2)
open Led (Lg encG encG_len encG_one Legs leg_cells)
set_option linter.unusedVariables false
variable {w w' : World}

theorem run_lds {w : World} {a : Addr} {x : ByteArray} (h : w.cell? a = some (.string x)) : (Instr.loadAt 9 (.pointer (some a))).run Try.prog w = .ok (.string x) w := by
  simp [go_sem, h]
theorem run_ldi {w : World} {a b : Addr} {n c : Nat} (h : w.cell? a = some (.slice (some b) n c)) : (Instr.loadAt 22 (.pointer (some a))).run Try.prog w = .ok (.slice (some b) n c) w := by
  simp [go_sem, h]
theorem run_ldg {w : World} {a : Addr} {b : Option Addr} {n c : Nat} (h : w.cell? a = some (.slice b n c)) : (Instr.loadAt 23 (.pointer (some a))).run Try.prog w = .ok (.slice b n c) w := by
  simp [go_sem, h]
/-- A transaction's box. -/
theorem box_cells (w : World) (x : Tv) : (w.alloc (.cells #[.int .i64 x.t.seq, .int .i64 x.t.time, .int .i64 x.t.kind, .string x.t.key, .string x.t.name, .slice x.a1 x.n1 x.c1, .slice x.a2 x.n2 x.c2] 25)).cell? ⟨w.heap.size, 0, none⟩ = some (.int .i64 x.t.seq) ∧ (w.alloc (.cells #[.int .i64 x.t.seq, .int .i64 x.t.time, .int .i64 x.t.kind, .string x.t.key, .string x.t.name, .slice x.a1 x.n1 x.c1, .slice x.a2 x.n2 x.c2] 25)).cell? ⟨w.heap.size, 1, none⟩ = some (.int .i64 x.t.time) ∧ (w.alloc (.cells #[.int .i64 x.t.seq, .int .i64 x.t.time, .int .i64 x.t.kind, .string x.t.key, .string x.t.name, .slice x.a1 x.n1 x.c1, .slice x.a2 x.n2 x.c2] 25)).cell? ⟨w.heap.size, 2, none⟩ = some (.int .i64 x.t.kind) ∧ (w.alloc (.cells #[.int .i64 x.t.seq, .int .i64 x.t.time, .int .i64 x.t.kind, .string x.t.key, .string x.t.name, .slice x.a1 x.n1 x.c1, .slice x.a2 x.n2 x.c2] 25)).cell? ⟨w.heap.size, 3, none⟩ = some (.string x.t.key) ∧ (w.alloc (.cells #[.int .i64 x.t.seq, .int .i64 x.t.time, .int .i64 x.t.kind, .string x.t.key, .string x.t.name, .slice x.a1 x.n1 x.c1, .slice x.a2 x.n2 x.c2] 25)).cell? ⟨w.heap.size, 4, none⟩ = some (.string x.t.name) ∧ (w.alloc (.cells #[.int .i64 x.t.seq, .int .i64 x.t.time, .int .i64 x.t.kind, .string x.t.key, .string x.t.name, .slice x.a1 x.n1 x.c1, .slice x.a2 x.n2 x.c2] 25)).cell? ⟨w.heap.size, 5, none⟩ = some (.slice x.a1 x.n1 x.c1) ∧ (w.alloc (.cells #[.int .i64 x.t.seq, .int .i64 x.t.time, .int .i64 x.t.kind, .string x.t.key, .string x.t.name, .slice x.a1 x.n1 x.c1, .slice x.a2 x.n2 x.c2] 25)).cell? ⟨w.heap.size, 6, none⟩ = some (.slice x.a2 x.n2 x.c2) := by
  refine ⟨?_, ?_, ?_, ?_, ?_, ?_, ?_⟩ <;> (rw [World.cell?_alloc_new]; rfl)
theorem enc_no {t : Tx} (h : ¬ Fits t) : encE t = 3 ∧ encL t = [] := by
  unfold encE encL
  rw [if_neg h, if_neg h]; exact ⟨rfl, rfl⟩
theorem enc_yes {t : Tx} (h : Fits t) : encE t = 0 ∧ encL t = encT t := by
  unfold encE encL
  rw [if_pos h, if_pos h]; exact ⟨rfl, rfl⟩
theorem nb_none (w : World) (B : Nat) : NB w B none 0 0 [] := ⟨rfl, Nat.le_refl _, by unfold maxLen; omega, fun _ => ⟨rfl, rfl⟩, .inl rfl, fun q hq => by cases hq⟩
theorem run_iag {b o n c k : Nat} (h : k < n) (w : World) : (Instr.indexAt 23 (.slice (some ⟨b, o, none⟩) n c) (.int .i64 k)).run Try.prog w = .ok (.pointer (some ⟨b, o + k * 2, none⟩)) w := by
  simp [go_sem, h]
theorem ints_take {l : List Int} {k : Nat} {x : Int} (h : l[k]? = some x) : ints (l.take (k + 1)) = ints (l.take k) ++ int8 x := by
  have hk := (List.getElem?_eq_some_iff.1 h).1
  have he := (List.getElem?_eq_some_iff.1 h).2
  unfold ints
  rw [List.take_succ_eq_append_getElem hk, he, List.flatMap_append]; simp
theorem flat_take {l : List Lg} {k : Nat} {g : Lg} (h : l[k]? = some g) : ints (flatG (l.take (k + 1))) = ints (flatG (l.take k)) ++ int8 g.acct ++ int8 g.amt := by
  have hk := (List.getElem?_eq_some_iff.1 h).1
  have he := (List.getElem?_eq_some_iff.1 h).2
  unfold ints flatG
  rw [List.take_succ_eq_append_getElem hk, he, List.flatMap_append, List.flatMap_append]; simp [two]
theorem dec_ok {l : List UInt8} {t : Tx} (h : decT l = some t) : decE l = 0 ∧ decV l = t := by
  unfold decE decV
  rw [h]; exact ⟨rfl, rfl⟩
theorem dec_no {l : List UInt8} (h : decT l = none) : decE l = 3 ∧ decV l = zeroT := by
  unfold decE decV
  rw [h]; exact ⟨rfl, rfl⟩
theorem rInts_snoc : ∀ (n : Nat) (s : RS), rInts (n + 1) s = ((rInts n s).1 ++ [(rInt (rInts n s).2).1], (rInt (rInts n s).2).2)
  | 0, s => by
    rw [rInts]
    rcases h : rInt s with ⟨x, s1⟩
    simp [rInts, h]
  | n + 1, s => by
    have e : rInts (n + 1 + 1) s = ((rInt s).1 :: (rInts (n + 1) (rInt s).2).1, (rInts (n + 1) (rInt s).2).2) := by
      rw [rInts]
    have e2 : rInts (n + 1) s = ((rInt s).1 :: (rInts n (rInt s).2).1, (rInts n (rInt s).2).2) := by
      rw [rInts]
    rw [e, rInts_snoc n (rInt s).2, e2]
    rfl
end Go.Proofs.Ytcoiebeehgeggaa.Ent
