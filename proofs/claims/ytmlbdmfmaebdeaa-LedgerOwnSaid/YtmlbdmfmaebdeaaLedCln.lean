/- Ledger, the landed: a list of allocations cloned. -/
import Derived.Test.YtmlbdmfmaebdeaaLedMem
namespace Go.Proofs.Ytmlbdmfmaebdeaa.Led
set_option maxRecDepth 100000
open Go.RowKit
open Go.Sort
open Kit
open Mon
open Tre
set_option linter.unusedVariables false
variable {w w' : World}

theorem run_nil (w : World) : (binOp .eql 22 (.slice none 0 0) (.slice none 0 0)).run Try.prog w = .ok (.bool true) w := by
  simp only [binOp]
  simp [run_equal_slice_nil w 22 45 none 0 0 Try.underlying22]
theorem run_some (w : World) (a : Addr) (n c : Nat) : (binOp .eql 22 (.slice (some a) n c) (.slice none 0 0)).run Try.prog w = .ok (.bool false) w := by
  simp only [binOp]
  simp [run_equal_slice_nil w 22 45 (some a) n c Try.underlying22]
set_option maxHeartbeats 4000000 in
theorem clone_any (W : World) (a : Option Addr) (n c : Nat) (al : List Al) (hA : Allocs W a n c al) (hn : n ≤ 100) :
    Calls Try.prog 19 #[.slice a n c] W fun e W' => ∃ v, e = .returned v ∧ Owns encL 6 45 W' W.heap.size v al ∧ Below W.heap.size W W' := by
  have HL := Lib.hid (And.intro hA hA.len)
  clear hA
  cases a with
  | none =>
    obtain ⟨rfl, rfl⟩ := HL.out.1.nil rfl
    have hal : al = [] := List.eq_nil_of_length_eq_zero HL.out.2
    have HN := Lib.hid hal
    clear hal
    go_enter Try.func19, Try.ntmps19
    have hrun := run_nil W
    go_wp2_with fail
    go_ret
    exact ⟨_, rfl, by rw [HN.out]; exact owns_nil _ _ _, Below.refl _ _⟩
  | some a =>
    obtain ⟨lx, hx⟩ : ∃ lx, lx = al := ⟨_, rfl⟩
    have hb2 := below_alloc W (.cells #[] 45)
    have HA1 := Lib.hid (own_empty_al W W.heap.size (Nat.le_refl _))
    have HA2 := Lib.hid (lst_keep encL_len HL.out.1 hb2)
    have HD1 := Lib.hid (show ([] : List Al).length + n ≤ maxLen by unfold maxLen; simp; omega)
    have HD2 := Lib.hid (show (([] : List Al).length + n) * 48 ≤ 140737488355328 by simp; omega)
    have HN := Lib.hid hb2
    have hrun := run_some W a n c
    clear hx hb2
    go_enter Try.func19, Try.ntmps19
    go_wp2_with (first | (at_builtin; refine Two.append_apart encL_len (by decide) encL_one rfl (.tmp 5) (.tmp 6) 22 45 rfl Try.underlying22 (.agg #[.int .i64 0, .int .i64 0, .int .i64 0, .int .i64 0, .int .i64 0, .int .i64 0]) 48 info_al rfl W.heap.size _ [] rfl HA1.out (some a) n c al rfl HL.out.2 HA2.out.row (fun h => by cases h) HD1.out HD2.out HN.out.size ?_; intro v9 w9 ho9 hg9 hx9; have HB9 := Lib.hid (HN.out.trans (Two.below_grown HA1.out hg9 HN.out.size)); have HO9 := Lib.hid ho9; clear ho9 hg9 hx9) | fail)
    go_ret
    exact ⟨_, rfl, HO9.out, HB9.out⟩
end Go.Proofs.Ytmlbdmfmaebdeaa.Led
