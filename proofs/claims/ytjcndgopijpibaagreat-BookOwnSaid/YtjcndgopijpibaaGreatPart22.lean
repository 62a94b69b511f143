/- Common to the claims of this seat, part 22: texts that were written one by one, laid behind one another. -/
import Derived.Test.YtjcndgopijpibaaGreatPart2
import Derived.Test.YtjcndgopijpibaaGreatPart3
import Derived.Test.YtjcndgopijpibaaGreatPart11
import Derived.Test.YtjcndgopijpibaaGreatPart12
import Derived.Test.YtjcndgopijpibaaGreatPart14
/- Book, the landed: lists cloned. -/
namespace Go.Proofs.YtjcndgopijpibaaGreat.Bok
set_option maxRecDepth 100000
open Go.RowKit
open Go.Sort
open Kit
open Foot
open Tre (Al Lst inI lst_keep lst_at lst_new lst_none encF encF_len encL_len)
open Rte (encR encR_len)
open Led (Lg encG encG_len)
open Job (Jb Jv Jobs encJ encJ_len encJ_one)
open Drw (Dw Draws encD encD_len encD_one)
open Snp (Sn Sv encK encK_len encK_one)
set_option linter.unusedVariables false
variable {w w' : World}
theorem tyI2 : Nest.Ty Tre.encI 1 Tryz.prog 31 3 (.int .i64 0) 8 := ⟨Tre.encI_len, by decide, Tre.encI_one, Tryz.underlying31, Tre.info_i, rfl⟩
theorem run_nil_f (w : World) : (binOp .eql 23 (.slice none 0 0) (.slice none 0 0)).run Tryz.prog w = .ok (.bool true) w := by
  simp only [binOp]
  simp [run_equal_slice_nil w 23 81 none 0 0 Tryz.underlying23]
theorem run_some_f (w : World) (a : Addr) (n c : Nat) : (binOp .eql 23 (.slice (some a) n c) (.slice none 0 0)).run Tryz.prog w = .ok (.bool false) w := by
  simp only [binOp]
  simp [run_equal_slice_nil w 23 81 (some a) n c Tryz.underlying23]
set_option maxHeartbeats 4000000 in
theorem clone_f (W : World) (a : Option Addr) (n c : Nat) (l : List Tre.Fd) (hA : Lst encF 3 W a n c l) (hn : n ≤ 100) :
    Calls Tryz.prog 55 #[.slice a n c] W fun e W' => ∃ v, e = .returned v ∧ Owns encF 3 81 W' W.heap.size v l ∧ Below W.heap.size W W' := by
  have HL := Lib.hid (And.intro hA hA.len)
  clear hA
  cases a with
  | none =>
    obtain ⟨rfl, rfl⟩ := HL.out.1.nil rfl
    have HN := Lib.hid (show l = [] from List.eq_nil_of_length_eq_zero HL.out.2)
    go_enter Tryz.func55, Tryz.ntmps55
    have hrun := run_nil_f W
    go_wp2_with fail
    go_ret
    exact ⟨_, rfl, by rw [HN.out]; exact owns_nil _ _ _, Below.refl _ _⟩
  | some a =>
    have hb2 := below_alloc W (.cells #[] 81)
    have HA1 := Lib.hid (Drw.own_empty encF 3 81 W W.heap.size (Nat.le_refl _))
    have HA2 := Lib.hid (lst_keep tyF2.hs HL.out.1 hb2)
    have HD1 := Lib.hid (show ([] : List Tre.Fd).length + n ≤ maxLen by unfold maxLen; simp; omega)
    have HD2 := Lib.hid (show (([] : List Tre.Fd).length + n) * 32 ≤ 140737488355328 by simp; omega)
    have HN := Lib.hid hb2
    have hrun := run_some_f W a n c
    clear hb2
    go_enter Tryz.func55, Tryz.ntmps55
    go_wp2_with (first | (at_builtin; refine Two.append_apart tyF2.hs tyF2.hz tyF2.one rfl (.tmp 5) (.tmp 6) 23 81 rfl tyF2.und (.agg #[.string ⟨#[]⟩, .int .i64 0, .int .i64 0]) 32 tyF2.info tyF2.zero W.heap.size _ [] rfl HA1.out (some a) n c l rfl HL.out.2 HA2.out.row (fun h => by cases h) HD1.out HD2.out HN.out.size ?_; intro v9 w9 ho9 hg9 hx9; have HB9 := Lib.hid (HN.out.trans (Two.below_grown HA1.out hg9 HN.out.size)); have HO9 := Lib.hid ho9; clear ho9 hg9 hx9) | fail)
    go_ret
    exact ⟨_, rfl, HO9.out, HB9.out⟩
theorem run_nil_l (w : World) : (binOp .eql 24 (.slice none 0 0) (.slice none 0 0)).run Tryz.prog w = .ok (.bool true) w := by
  simp only [binOp]
  simp [run_equal_slice_nil w 24 65 none 0 0 Tryz.underlying24]
theorem run_some_l (w : World) (a : Addr) (n c : Nat) : (binOp .eql 24 (.slice (some a) n c) (.slice none 0 0)).run Tryz.prog w = .ok (.bool false) w := by
  simp only [binOp]
  simp [run_equal_slice_nil w 24 65 (some a) n c Tryz.underlying24]
set_option maxHeartbeats 4000000 in
theorem clone_l (W : World) (a : Option Addr) (n c : Nat) (l : List Al) (hA : Lst Tre.encL 6 W a n c l) (hn : n ≤ 100) :
    Calls Tryz.prog 56 #[.slice a n c] W fun e W' => ∃ v, e = .returned v ∧ Owns Tre.encL 6 65 W' W.heap.size v l ∧ Below W.heap.size W W' := by
  have HL := Lib.hid (And.intro hA hA.len)
  clear hA
  cases a with
  | none =>
    obtain ⟨rfl, rfl⟩ := HL.out.1.nil rfl
    have HN := Lib.hid (show l = [] from List.eq_nil_of_length_eq_zero HL.out.2)
    go_enter Tryz.func56, Tryz.ntmps56
    have hrun := run_nil_l W
    go_wp2_with fail
    go_ret
    exact ⟨_, rfl, by rw [HN.out]; exact owns_nil _ _ _, Below.refl _ _⟩
  | some a =>
    have hb2 := below_alloc W (.cells #[] 65)
    have HA1 := Lib.hid (Drw.own_empty Tre.encL 6 65 W W.heap.size (Nat.le_refl _))
    have HA2 := Lib.hid (lst_keep tyA2.hs HL.out.1 hb2)
    have HD1 := Lib.hid (show ([] : List Al).length + n ≤ maxLen by unfold maxLen; simp; omega)
    have HD2 := Lib.hid (show (([] : List Al).length + n) * 48 ≤ 140737488355328 by simp; omega)
    have HN := Lib.hid hb2
    have hrun := run_some_l W a n c
    clear hb2
    go_enter Tryz.func56, Tryz.ntmps56
    go_wp2_with (first | (at_builtin; refine Two.append_apart tyA2.hs tyA2.hz tyA2.one rfl (.tmp 5) (.tmp 6) 24 65 rfl tyA2.und (.agg #[.int .i64 0, .int .i64 0, .int .i64 0, .int .i64 0, .int .i64 0, .int .i64 0]) 48 tyA2.info tyA2.zero W.heap.size _ [] rfl HA1.out (some a) n c l rfl HL.out.2 HA2.out.row (fun h => by cases h) HD1.out HD2.out HN.out.size ?_; intro v9 w9 ho9 hg9 hx9; have HB9 := Lib.hid (HN.out.trans (Two.below_grown HA1.out hg9 HN.out.size)); have HO9 := Lib.hid ho9; clear ho9 hg9 hx9) | fail)
    go_ret
    exact ⟨_, rfl, HO9.out, HB9.out⟩
theorem run_nil_r (w : World) : (binOp .eql 25 (.slice none 0 0) (.slice none 0 0)).run Tryz.prog w = .ok (.bool true) w := by
  simp only [binOp]
  simp [run_equal_slice_nil w 25 83 none 0 0 Tryz.underlying25]
theorem run_some_r (w : World) (a : Addr) (n c : Nat) : (binOp .eql 25 (.slice (some a) n c) (.slice none 0 0)).run Tryz.prog w = .ok (.bool false) w := by
  simp only [binOp]
  simp [run_equal_slice_nil w 25 83 (some a) n c Tryz.underlying25]
set_option maxHeartbeats 4000000 in
theorem clone_r (W : World) (a : Option Addr) (n c : Nat) (l : List Rte.Rt) (hA : Lst encR 3 W a n c l) (hn : n ≤ 100) :
    Calls Tryz.prog 57 #[.slice a n c] W fun e W' => ∃ v, e = .returned v ∧ Owns encR 3 83 W' W.heap.size v l ∧ Below W.heap.size W W' := by
  have HL := Lib.hid (And.intro hA hA.len)
  clear hA
  cases a with
  | none =>
    obtain ⟨rfl, rfl⟩ := HL.out.1.nil rfl
    have HN := Lib.hid (show l = [] from List.eq_nil_of_length_eq_zero HL.out.2)
    go_enter Tryz.func57, Tryz.ntmps57
    have hrun := run_nil_r W
    go_wp2_with fail
    go_ret
    exact ⟨_, rfl, by rw [HN.out]; exact owns_nil _ _ _, Below.refl _ _⟩
  | some a =>
    have hb2 := below_alloc W (.cells #[] 83)
    have HA1 := Lib.hid (Drw.own_empty encR 3 83 W W.heap.size (Nat.le_refl _))
    have HA2 := Lib.hid (lst_keep tyR2.hs HL.out.1 hb2)
    have HD1 := Lib.hid (show ([] : List Rte.Rt).length + n ≤ maxLen by unfold maxLen; simp; omega)
    have HD2 := Lib.hid (show (([] : List Rte.Rt).length + n) * 24 ≤ 140737488355328 by simp; omega)
    have HN := Lib.hid hb2
    have hrun := run_some_r W a n c
    clear hb2
    go_enter Tryz.func57, Tryz.ntmps57
    go_wp2_with (first | (at_builtin; refine Two.append_apart tyR2.hs tyR2.hz tyR2.one rfl (.tmp 5) (.tmp 6) 25 83 rfl tyR2.und (.agg #[.int .i64 0, .int .i64 0, .int .i64 0]) 24 tyR2.info tyR2.zero W.heap.size _ [] rfl HA1.out (some a) n c l rfl HL.out.2 HA2.out.row (fun h => by cases h) HD1.out HD2.out HN.out.size ?_; intro v9 w9 ho9 hg9 hx9; have HB9 := Lib.hid (HN.out.trans (Two.below_grown HA1.out hg9 HN.out.size)); have HO9 := Lib.hid ho9; clear ho9 hg9 hx9) | fail)
    go_ret
    exact ⟨_, rfl, HO9.out, HB9.out⟩
theorem run_nil_j (w : World) : (binOp .eql 26 (.slice none 0 0) (.slice none 0 0)).run Tryz.prog w = .ok (.bool true) w := by
  simp only [binOp]
  simp [run_equal_slice_nil w 26 58 none 0 0 Tryz.underlying26]
theorem run_some_j (w : World) (a : Addr) (n c : Nat) : (binOp .eql 26 (.slice (some a) n c) (.slice none 0 0)).run Tryz.prog w = .ok (.bool false) w := by
  simp only [binOp]
  simp [run_equal_slice_nil w 26 58 (some a) n c Tryz.underlying26]
set_option maxHeartbeats 4000000 in
theorem clone_j (W : World) (a : Option Addr) (n c : Nat) (l : List Jv) (hA : Lst encJ 12 W a n c l) (hn : n ≤ 100) :
    Calls Tryz.prog 58 #[.slice a n c] W fun e W' => ∃ v, e = .returned v ∧ Owns encJ 12 58 W' W.heap.size v l ∧ Below W.heap.size W W' := by
  have HL := Lib.hid (And.intro hA hA.len)
  clear hA
  cases a with
  | none =>
    obtain ⟨rfl, rfl⟩ := HL.out.1.nil rfl
    have HN := Lib.hid (show l = [] from List.eq_nil_of_length_eq_zero HL.out.2)
    go_enter Tryz.func58, Tryz.ntmps58
    have hrun := run_nil_j W
    go_wp2_with fail
    go_ret
    exact ⟨_, rfl, by rw [HN.out]; exact owns_nil _ _ _, Below.refl _ _⟩
  | some a =>
    have hb2 := below_alloc W (.cells #[] 58)
    have HA1 := Lib.hid (Drw.own_empty encJ 12 58 W W.heap.size (Nat.le_refl _))
    have HA2 := Lib.hid (lst_keep tyJ.hs HL.out.1 hb2)
    have HD1 := Lib.hid (show ([] : List Jv).length + n ≤ maxLen by unfold maxLen; simp; omega)
    have HD2 := Lib.hid (show (([] : List Jv).length + n) * 112 ≤ 140737488355328 by simp; omega)
    have HN := Lib.hid hb2
    have hrun := run_some_j W a n c
    clear hb2
    go_enter Tryz.func58, Tryz.ntmps58
    go_wp2_with (first | (at_builtin; refine Two.append_apart tyJ.hs tyJ.hz tyJ.one rfl (.tmp 5) (.tmp 6) 26 58 rfl tyJ.und (.agg #[.int .i64 0, .int .i64 0, .int .i64 0, .int .i64 0, .int .i64 0, .int .i64 0, .int .i64 0, .int .i64 0, .int .i64 0, .int .i64 0, .int .i64 0, .slice none 0 0]) 112 tyJ.info tyJ.zero W.heap.size _ [] rfl HA1.out (some a) n c l rfl HL.out.2 HA2.out.row (fun h => by cases h) HD1.out HD2.out HN.out.size ?_; intro v9 w9 ho9 hg9 hx9; have HB9 := Lib.hid (HN.out.trans (Two.below_grown HA1.out hg9 HN.out.size)); have HO9 := Lib.hid ho9; clear ho9 hg9 hx9) | fail)
    go_ret
    exact ⟨_, rfl, HO9.out, HB9.out⟩
theorem run_nil_d (w : World) : (binOp .eql 56 (.slice none 0 0) (.slice none 0 0)).run Tryz.prog w = .ok (.bool true) w := by
  simp only [binOp]
  simp [run_equal_slice_nil w 56 63 none 0 0 Tryz.underlying56]
theorem run_some_d (w : World) (a : Addr) (n c : Nat) : (binOp .eql 56 (.slice (some a) n c) (.slice none 0 0)).run Tryz.prog w = .ok (.bool false) w := by
  simp only [binOp]
  simp [run_equal_slice_nil w 56 63 (some a) n c Tryz.underlying56]
set_option maxHeartbeats 4000000 in
theorem clone_d (W : World) (a : Option Addr) (n c : Nat) (l : List Dw) (hA : Lst encD 2 W a n c l) (hn : n ≤ 100) :
    Calls Tryz.prog 59 #[.slice a n c] W fun e W' => ∃ v, e = .returned v ∧ Owns encD 2 63 W' W.heap.size v l ∧ Below W.heap.size W W' := by
  have HL := Lib.hid (And.intro hA hA.len)
  clear hA
  cases a with
  | none =>
    obtain ⟨rfl, rfl⟩ := HL.out.1.nil rfl
    have HN := Lib.hid (show l = [] from List.eq_nil_of_length_eq_zero HL.out.2)
    go_enter Tryz.func59, Tryz.ntmps59
    have hrun := run_nil_d W
    go_wp2_with fail
    go_ret
    exact ⟨_, rfl, by rw [HN.out]; exact owns_nil _ _ _, Below.refl _ _⟩
  | some a =>
    have hb2 := below_alloc W (.cells #[] 63)
    have HA1 := Lib.hid (Drw.own_empty encD 2 63 W W.heap.size (Nat.le_refl _))
    have HA2 := Lib.hid (lst_keep tyD2.hs HL.out.1 hb2)
    have HD1 := Lib.hid (show ([] : List Dw).length + n ≤ maxLen by unfold maxLen; simp; omega)
    have HD2 := Lib.hid (show (([] : List Dw).length + n) * 16 ≤ 140737488355328 by simp; omega)
    have HN := Lib.hid hb2
    have hrun := run_some_d W a n c
    clear hb2
    go_enter Tryz.func59, Tryz.ntmps59
    go_wp2_with (first | (at_builtin; refine Two.append_apart tyD2.hs tyD2.hz tyD2.one rfl (.tmp 5) (.tmp 6) 56 63 rfl tyD2.und (.agg #[.int .i64 0, .int .i64 0]) 16 tyD2.info tyD2.zero W.heap.size _ [] rfl HA1.out (some a) n c l rfl HL.out.2 HA2.out.row (fun h => by cases h) HD1.out HD2.out HN.out.size ?_; intro v9 w9 ho9 hg9 hx9; have HB9 := Lib.hid (HN.out.trans (Two.below_grown HA1.out hg9 HN.out.size)); have HO9 := Lib.hid ho9; clear ho9 hg9 hx9) | fail)
    go_ret
    exact ⟨_, rfl, HO9.out, HB9.out⟩
theorem run_nil_k (w : World) : (binOp .eql 27 (.slice none 0 0) (.slice none 0 0)).run Tryz.prog w = .ok (.bool true) w := by
  simp only [binOp]
  simp [run_equal_slice_nil w 27 9 none 0 0 Tryz.underlying27]
theorem run_some_k (w : World) (a : Addr) (n c : Nat) : (binOp .eql 27 (.slice (some a) n c) (.slice none 0 0)).run Tryz.prog w = .ok (.bool false) w := by
  simp only [binOp]
  simp [run_equal_slice_nil w 27 9 (some a) n c Tryz.underlying27]
set_option maxHeartbeats 4000000 in
theorem clone_k (W : World) (a : Option Addr) (n c : Nat) (l : List ByteArray) (hA : Lst encK 1 W a n c l) (hn : n ≤ 100) :
    Calls Tryz.prog 60 #[.slice a n c] W fun e W' => ∃ v, e = .returned v ∧ Owns encK 1 9 W' W.heap.size v l ∧ Below W.heap.size W W' := by
  have HL := Lib.hid (And.intro hA hA.len)
  clear hA
  cases a with
  | none =>
    obtain ⟨rfl, rfl⟩ := HL.out.1.nil rfl
    have HN := Lib.hid (show l = [] from List.eq_nil_of_length_eq_zero HL.out.2)
    go_enter Tryz.func60, Tryz.ntmps60
    have hrun := run_nil_k W
    go_wp2_with fail
    go_ret
    exact ⟨_, rfl, by rw [HN.out]; exact owns_nil _ _ _, Below.refl _ _⟩
  | some a =>
    have hb2 := below_alloc W (.cells #[] 9)
    have HA1 := Lib.hid (Drw.own_empty encK 1 9 W W.heap.size (Nat.le_refl _))
    have HA2 := Lib.hid (lst_keep tyK2.hs HL.out.1 hb2)
    have HD1 := Lib.hid (show ([] : List ByteArray).length + n ≤ maxLen by unfold maxLen; simp; omega)
    have HD2 := Lib.hid (show (([] : List ByteArray).length + n) * 16 ≤ 140737488355328 by simp; omega)
    have HN := Lib.hid hb2
    have hrun := run_some_k W a n c
    clear hb2
    go_enter Tryz.func60, Tryz.ntmps60
    go_wp2_with (first | (at_builtin; refine Two.append_apart tyK2.hs tyK2.hz tyK2.one rfl (.tmp 5) (.tmp 6) 27 9 rfl tyK2.und (.string ⟨#[]⟩) 16 tyK2.info tyK2.zero W.heap.size _ [] rfl HA1.out (some a) n c l rfl HL.out.2 HA2.out.row (fun h => by cases h) HD1.out HD2.out HN.out.size ?_; intro v9 w9 ho9 hg9 hx9; have HB9 := Lib.hid (HN.out.trans (Two.below_grown HA1.out hg9 HN.out.size)); have HO9 := Lib.hid ho9; clear ho9 hg9 hx9) | fail)
    go_ret
    exact ⟨_, rfl, HO9.out, HB9.out⟩
theorem run_nil_i (w : World) : (binOp .eql 31 (.slice none 0 0) (.slice none 0 0)).run Tryz.prog w = .ok (.bool true) w := by
  simp only [binOp]
  simp [run_equal_slice_nil w 31 3 none 0 0 Tryz.underlying31]
theorem run_some_i (w : World) (a : Addr) (n c : Nat) : (binOp .eql 31 (.slice (some a) n c) (.slice none 0 0)).run Tryz.prog w = .ok (.bool false) w := by
  simp only [binOp]
  simp [run_equal_slice_nil w 31 3 (some a) n c Tryz.underlying31]
set_option maxHeartbeats 4000000 in
theorem clone_i (W : World) (a : Option Addr) (n c : Nat) (l : List Int) (hA : Lst Tre.encI 1 W a n c l) (hn : n ≤ 100) :
    Calls Tryz.prog 39 #[.slice a n c] W fun e W' => ∃ v, e = .returned v ∧ Owns Tre.encI 1 3 W' W.heap.size v l ∧ Below W.heap.size W W' := by
  have HL := Lib.hid (And.intro hA hA.len)
  clear hA
  cases a with
  | none =>
    obtain ⟨rfl, rfl⟩ := HL.out.1.nil rfl
    have HN := Lib.hid (show l = [] from List.eq_nil_of_length_eq_zero HL.out.2)
    go_enter Tryz.func39, Tryz.ntmps39
    have hrun := run_nil_i W
    go_wp2_with fail
    go_ret
    exact ⟨_, rfl, by rw [HN.out]; exact owns_nil _ _ _, Below.refl _ _⟩
  | some a =>
    have hb2 := below_alloc W (.cells #[] 3)
    have HA1 := Lib.hid (Drw.own_empty Tre.encI 1 3 W W.heap.size (Nat.le_refl _))
    have HA2 := Lib.hid (lst_keep tyI2.hs HL.out.1 hb2)
    have HD1 := Lib.hid (show ([] : List Int).length + n ≤ maxLen by unfold maxLen; simp; omega)
    have HD2 := Lib.hid (show (([] : List Int).length + n) * 8 ≤ 140737488355328 by simp; omega)
    have HN := Lib.hid hb2
    have hrun := run_some_i W a n c
    clear hb2
    go_enter Tryz.func39, Tryz.ntmps39
    go_wp2_with (first | (at_builtin; refine Two.append_apart tyI2.hs tyI2.hz tyI2.one rfl (.tmp 5) (.tmp 6) 31 3 rfl tyI2.und (.int .i64 0) 8 tyI2.info tyI2.zero W.heap.size _ [] rfl HA1.out (some a) n c l rfl HL.out.2 HA2.out.row (fun h => by cases h) HD1.out HD2.out HN.out.size ?_; intro v9 w9 ho9 hg9 hx9; have HB9 := Lib.hid (HN.out.trans (Two.below_grown HA1.out hg9 HN.out.size)); have HO9 := Lib.hid ho9; clear ho9 hg9 hx9) | fail)
    go_ret
    exact ⟨_, rfl, HO9.out, HB9.out⟩
end Go.Proofs.YtjcndgopijpibaaGreat.Bok
/- Ledger: legs in memory; arguments opened; what the ledger answers. -/
namespace Go.Proofs.YtjcndgopijpibaaGreat.Led
set_option maxRecDepth 100000
open Go.RowKit
open Go.Sort
open Kit
open Mon
open Tre
set_option linter.unusedVariables false
variable {w w' : World}
abbrev PostC : Prop := ∀ (W : World) (wd : Int) (a : Option Addr) (n c : Nat) (al : List Al) (a2 : Option Addr) (n2 c2 : Nat) (legs : List Lg), inI wd → Allocs W a n c al → (∀ x ∈ al, x.ok) → n ≤ 100 → Legs W a2 n2 c2 legs → (∀ x ∈ legs, x.ok) → n2 ≤ 100 →
    Calls Tryz.prog 79 #[.int .i64 wd, .slice a n c, .slice a2 n2 c2] W fun e W' => ∃ v, e = .returned (.tuple #[.int .i64 (postW wd al legs), v, .int .i64 (postE wd al legs)]) ∧ OutA W' W.heap.size v (postA wd al legs) ∧ Below W.heap.size W W'
end Go.Proofs.YtjcndgopijpibaaGreat.Led
/- Ledger, the landed: which accounts there are, where an account's amount lies. -/
namespace Go.Proofs.YtjcndgopijpibaaGreat.Led
set_option maxRecDepth 100000
open Go.RowKit
open Go.Sort
open Kit
open Mon
open Tre
set_option linter.unusedVariables false
variable {w w' : World}
theorem is_yes (W : World) (a : Option Addr) (n c : Nat) (k : Int) (hn : n ≤ 100) (h0 : 0 ≤ k) (h1 : k ≤ 3 * (n : Int)) :
    Calls Tryz.prog 135 #[.slice a n c, .int .i64 k] W fun e w' => e = .returned (.bool true) ∧ W = w' := by
  go_enter Tryz.func135, Tryz.ntmps135
  go_wp2_with fail
  go_ret
  exact ⟨rfl, rfl⟩
theorem is_no (W : World) (a : Option Addr) (n c : Nat) (k : Int) (hn : n ≤ 100) (h : k < 0 ∨ 3 * (n : Int) < k) :
    Calls Tryz.prog 135 #[.slice a n c, .int .i64 k] W fun e w' => e = .returned (.bool false) ∧ W = w' := by
  have h2 : decide (0 ≤ k) = false ∨ (0 ≤ k ∧ decide (k ≤ 3 * (n : Int)) = false) := by
    rcases h with h | h
    · exact .inl (by simp; omega)
    · exact .inr ⟨by omega, by simp; omega⟩
  clear h
  rcases h2 with h2 | ⟨h1, h2⟩
  all_goals
    go_enter Tryz.func135, Tryz.ntmps135
    go_wp2_with fail
    go_ret
    exact ⟨rfl, rfl⟩
theorem may_world (W : World) (x : Int) (b : Bool) (hb : decide (x ≤ 0) = b) : Calls Tryz.prog 139 #[.int .i64 0, .int .i64 x] W fun e w' => e = .returned (.bool b) ∧ W = w' := by
  go_enter Tryz.func139, Tryz.ntmps139
  go_wp2_with fail
  go_ret
  exact ⟨rfl, rfl⟩
theorem may_alloc (W : World) (k x : Int) (b : Bool) (hk : (k == 0) = false) (hb : decide (0 ≤ x) = b) : Calls Tryz.prog 139 #[.int .i64 k, .int .i64 x] W fun e w' => e = .returned (.bool b) ∧ W = w' := by
  go_enter Tryz.func139, Tryz.ntmps139
  go_wp2_with fail
  go_ret
  exact ⟨rfl, rfl⟩
theorem addr_world (W : World) (p : Option Addr) (a : Option Addr) (n c : Nat) : Calls Tryz.prog 113 #[.pointer p, .slice a n c, .int .i64 0] W fun e w' => e = .returned (.pointer p) ∧ W = w' := by
  go_enter Tryz.func113, Tryz.ntmps113
  go_wp2_with fail
  go_ret
  exact ⟨rfl, rfl⟩
theorem quo_three {i r : Nat} (hr : r < 3) : Int.tdiv ((3 * i + r : Nat) : Int) 3 = (i : Nat) := by
  rw [Int.tdiv_eq_ediv_of_nonneg (by omega)]; omega
theorem rem_three {i r : Nat} (hr : r < 3) : Int.tmod ((3 * i + r : Nat) : Int) 3 = (r : Nat) := by
  rw [Int.tmod_eq_emod_of_nonneg (by omega)]; omega
theorem addr_at (W : World) (p : Option Addr) (b o n c i r : Nat) (hn : n ≤ 100) (hi : i < n) (hr : r < 3) : Calls Tryz.prog 113 #[.pointer p, .slice (some ⟨b, o, none⟩) n c, .int .i64 ((1 + 3 * i + r : Nat) : Int)] W fun e w' => e = .returned (.pointer (some ⟨b, o + i * 6 + (3 + r), none⟩)) ∧ W = w' := by
  have HC := Lib.hid (is_yes W (some ⟨b, o, none⟩) n c ((1 + 3 * i + r : Nat) : Int) hn (by omega) (by omega))
  have hq := quo_three (i := i) hr
  have hm := rem_three (i := i) hr
  obtain ⟨j, hj⟩ : ∃ j, j = 3 * i + r := ⟨_, rfl⟩
  rw [show 1 + 3 * i + r = j + 1 by omega] at HC ⊢
  rw [← hj] at hq hm
  have hk : (((j + 1 : Nat) : Int) == 0) = false := beq_false_of_ne (by omega)
  have hj2 : j ≤ 1000 := by omega
  have HJ := Lib.hid hj
  clear hj
  match r, hr with
  | 0, _ =>
    go_enter Tryz.func113, Tryz.ntmps113
    go_wp2_with fail
    refine HC.out.mono ?_
    rintro e w1 ⟨rfl, rfl⟩
    go_wp2_with fail
    go_ret
    exact ⟨rfl, rfl⟩
  | 1, _ =>
    go_enter Tryz.func113, Tryz.ntmps113
    go_wp2_with fail
    refine HC.out.mono ?_
    rintro e w1 ⟨rfl, rfl⟩
    go_wp2_with fail
    go_ret
    exact ⟨rfl, rfl⟩
  | 2, _ =>
    go_enter Tryz.func113, Tryz.ntmps113
    go_wp2_with fail
    refine HC.out.mono ?_
    rintro e w1 ⟨rfl, rfl⟩
    go_wp2_with fail
    go_ret
    exact ⟨rfl, rfl⟩
end Go.Proofs.YtjcndgopijpibaaGreat.Led
/- Ledger: legs one by one, the first error of all; amounts of which the first ones are set. -/
namespace Go.Proofs.YtjcndgopijpibaaGreat.Led
set_option maxRecDepth 100000
open Go.RowKit
open Go.Sort
open Kit
open Mon
open Tre
set_option linter.unusedVariables false
variable {w w' : World}
theorem scan_append {n : Nat} : ∀ {l1 l2 : List Lg}, scanE n l1 = 0 → scanE n (l1 ++ l2) = scanE n l2
  | [], _, _ => rfl
  | g :: l1, l2, h => by
    rw [scanE] at h
    rw [List.cons_append, scanE]
    by_cases h1 : g.acct < 0 ∨ (n : Int) ≤ g.acct
    · rw [if_pos h1] at h; cases h
    · rw [if_neg h1] at h ⊢
      by_cases h2 : g.amt = 0
      · rw [if_pos h2] at h; cases h
      · rw [if_neg h2] at h ⊢
        exact scan_append h
theorem scan_at {n k : Nat} {legs : List Lg} {g : Lg} (h : scanE n (legs.take k) = 0) (hg : legs[k]? = some g) :
    (g.acct < 0 ∨ (n : Int) ≤ g.acct → scanE n legs = 4) ∧ (¬ (g.acct < 0 ∨ (n : Int) ≤ g.acct) → g.amt = 0 → scanE n legs = 3) ∧ (¬ (g.acct < 0 ∨ (n : Int) ≤ g.acct) → ¬ g.amt = 0 → scanE n (legs.take (k + 1)) = 0) := by
  have hk := (List.getElem?_eq_some_iff.1 hg).1
  have he := (List.getElem?_eq_some_iff.1 hg).2
  have e1 : scanE n legs = scanE n (g :: legs.drop (k + 1)) := by
    conv => lhs; rw [← List.take_append_drop k legs]
    rw [scan_append h, List.drop_eq_getElem_cons hk, he]
  have e2 : scanE n (legs.take (k + 1)) = scanE n [g] := by
    rw [List.take_succ_eq_append_getElem hk, he, scan_append h]
  refine ⟨fun h1 => ?_, fun h1 h2 => ?_, fun h1 h2 => ?_⟩
  · rw [e1, scanE, if_pos h1]
  · rw [e1, scanE, if_neg h1, if_pos h2]
  · rw [e2, scanE, if_neg h1, if_neg h2]; rfl
theorem pre_scan {n : Nat} {legs : List Lg} {e : Int} (h : scanE n legs = e) (he : e ≠ 0) : preE n legs = e := by
  unfold preE; rw [h, if_pos he]
theorem post_pre {w : Int} {al : List Al} {legs : List Lg} {e : Int} (h : preE (1 + 3 * al.length) legs = e) (he : e ≠ 0) : postE w al legs = e := by
  unfold postE; rw [h, if_pos he]
theorem amts_take {legs : List Lg} {k : Nat} {g : Lg} (h : legs[k]? = some g) : amts (legs.take (k + 1)) = amts (legs.take k) ++ [g.amt] := by
  have hk := (List.getElem?_eq_some_iff.1 h).1
  have he := (List.getElem?_eq_some_iff.1 h).2
  unfold amts
  rw [List.take_succ_eq_append_getElem hk, he, List.map_append]; rfl
def Refused (w : Int) (al : List Al) (legs : List Lg) (e : Int) : Prop := postW w al legs = 0 ∧ postA w al legs = [] ∧ postE w al legs = e
theorem refused {w : Int} {al : List Al} {legs : List Lg} {e : Int} (h : postE w al legs = e) (he : e ≠ 0) : Refused w al legs e :=
  ⟨postW_no (by rw [h]; exact he), postA_no (by rw [h]; exact he), h⟩
theorem pre_many {n : Nat} {legs : List Lg} (h : scanE n legs = 0) (h2 : legs.length < 1 ∨ 64 < legs.length) : preE n legs = 3 := by
  unfold preE; rw [h, if_neg (by decide), if_pos h2]
theorem pre_add {n : Nat} {legs : List Lg} (h : scanE n legs = 0) (h2 : ¬ (legs.length < 1 ∨ 64 < legs.length)) (h3 : addE (amts legs) ≠ 0) : preE n legs = 2 := by
  unfold preE; rw [h, if_neg (by decide), if_neg h2, if_pos h3]
  rcases addE_two (amts legs) with h | h
  · exact absurd h h3
  · exact h
theorem pre_sum {n : Nat} {legs : List Lg} (h : scanE n legs = 0) (h2 : ¬ (legs.length < 1 ∨ 64 < legs.length)) (h3 : addE (amts legs) = 0) (h4 : addN (amts legs) ≠ 0) : preE n legs = 3 := by
  unfold preE; rw [h, if_neg (by decide), if_neg h2, h3, if_neg (by decide), if_pos h4]
theorem pre_ok {n : Nat} {legs : List Lg} (h : scanE n legs = 0) (h2 : ¬ (legs.length < 1 ∨ 64 < legs.length)) (h3 : addE (amts legs) = 0) (h4 : addN (amts legs) = 0) : preE n legs = 0 := by
  unfold preE; rw [h, if_neg (by decide), if_neg h2, h3, if_neg (by decide), h4, if_neg (by decide)]
theorem accs_first {fl : List Int} {legs : List Lg} {e : Int} (he : e ≠ 0) : ∀ (n i k : Nat), (∀ j, i ≤ j → j < k → acctE fl legs j = 0) → acctE fl legs k = e → i ≤ k → k < i + n → accsE fl legs n i = e
  | 0, i, k, _, _, h1, h2 => by omega
  | n + 1, i, k, hz, hk, h1, h2 => by
    rw [accsE]
    by_cases hi : i = k
    · subst hi
      rw [hk, if_pos he]
    · rw [hz i (Nat.le_refl _) (by omega), if_neg (by decide)]
      exact accs_first he n (i + 1) k (fun j h3 h4 => hz j (by omega) h4) hk (by omega) (by omega)
theorem post_first {w : Int} {al : List Al} {legs : List Lg} {k : Nat} {e : Int} (hp : preE (1 + 3 * al.length) legs = 0) (hz : ∀ j, j < k → acctE (flatN w al) legs j = 0) (hk : acctE (flatN w al) legs k = e) (he : e ≠ 0) (hlt : k < 1 + 3 * al.length) : postE w al legs = e := by
  unfold postE
  rw [hp, if_neg (by decide)]
  exact accs_first he _ 0 k (fun j _ h => hz j h) hk (Nat.zero_le _) (by omega)
def part {α : Type} (F fl : List α) (k : Nat) : List α := F.take k ++ fl.drop k
theorem part_len {α : Type} {F fl : List α} {m k : Nat} (h1 : F.length = m) (h2 : fl.length = m) (hk : k ≤ m) : (part F fl k).length = m := by
  unfold part
  rw [List.length_append, List.length_take, List.length_drop]; omega
theorem part_at {α : Type} {F fl : List α} {m k : Nat} (h1 : F.length = m) (hk : k < m) {y : α} (hy : fl[k]? = some y) : (part F fl k)[k]? = some y := by
  unfold part
  rw [List.getElem?_append_right (by rw [List.length_take]; omega), List.length_take, List.getElem?_drop, show k + (k - min k F.length) = k by omega]
  exact hy
theorem part_set {α : Type} {F fl : List α} {m k : Nat} (h1 : F.length = m) (h2 : fl.length = m) (hk : k < m) {x : α} (hx : F[k]? = some x) : (part F fl k).set k x = part F fl (k + 1) := by
  have hF : k < F.length := by omega
  have hf : k < fl.length := by omega
  have hxe : F[k] = x := (List.getElem?_eq_some_iff.1 hx).2
  unfold part
  rw [List.set_append, if_neg (by rw [List.length_take]; omega), List.length_take, show k - min k F.length = 0 by omega, List.take_succ_eq_append_getElem hF, hxe, List.drop_eq_getElem_cons hf, List.set_cons_zero, List.append_assoc]
  rfl
theorem part_same {α : Type} {F fl : List α} {m k : Nat} (h1 : F.length = m) (h2 : fl.length = m) (hk : k < m) {x : α} (hx : F[k]? = some x) (hy : fl[k]? = some x) : part F fl (k + 1) = part F fl k := by
  rw [← part_set h1 h2 hk hx]
  apply List.ext_getElem?
  intro i
  rw [List.getElem?_set]
  split
  · rename_i e
    subst e
    rw [part_at h1 hk hy, if_pos (by rw [part_len h1 h2 (by omega)]; exact hk)]
  · rfl
theorem of_take {legs : List Lg} {k q : Nat} {g : Lg} (h : legs[q]? = some g) : of (legs.take (q + 1)) k = of (legs.take q) k ++ (if g.acct = (k : Int) then [g.amt] else []) := by
  have hq := (List.getElem?_eq_some_iff.1 h).1
  have he := (List.getElem?_eq_some_iff.1 h).2
  unfold of
  rw [List.take_succ_eq_append_getElem hq, he, List.filter_append, List.map_append]
  by_cases hg : g.acct = (k : Int)
  · rw [if_pos hg]; simp [hg]
  · rw [if_neg hg]; simp [hg]
theorem of_len (legs : List Lg) (k : Nat) : (of legs k).length ≤ legs.length := by
  unfold of
  rw [List.length_map]
  exact List.length_filter_le _ _
end Go.Proofs.YtjcndgopijpibaaGreat.Led
/- Ledger, the landed: what is in an account behind its legs; a list of allocations cloned. -/
namespace Go.Proofs.YtjcndgopijpibaaGreat.Led
set_option maxRecDepth 100000
open Go.RowKit
open Go.Sort
open Kit
open Mon
open Tre
set_option linter.unusedVariables false
variable {w w' : World}
def mineY (y : Int) (legs : List Lg) (k : Nat) : List Int := y :: of legs k
def behE (y : Int) (legs : List Lg) (k : Nat) : Int := if addE (mineY y legs k) ≠ 0 then addE (mineY y legs k) else if bad k (addN (mineY y legs k)) then 7 else 0
def behN (y : Int) (legs : List Lg) (k : Nat) : Int := if behE y legs k = 0 then addN (mineY y legs k) else 0
theorem beh_add {y : Int} {legs : List Lg} {k : Nat} (h : ¬ addE (mineY y legs k) = 0) : behE y legs k = 2 ∧ behN y legs k = 0 ∧ addE (mineY y legs k) = 2 ∧ addN (mineY y legs k) = 0 := by
  have h2 : addE (mineY y legs k) = 2 := by
    rcases addE_two (mineY y legs k) with h3 | h3
    · exact absurd h3 h
    · exact h3
  have e : behE y legs k = 2 := by unfold behE; rw [if_pos h, h2]
  refine ⟨e, ?_, h2, addN_err h⟩
  unfold behN; rw [e]; rfl
theorem beh_bad {y : Int} {legs : List Lg} {k : Nat} (h : addE (mineY y legs k) = 0) (h2 : bad k (addN (mineY y legs k)) = true) : behE y legs k = 7 ∧ behN y legs k = 0 := by
  have e : behE y legs k = 7 := by unfold behE; rw [if_neg (by simpa using h), if_pos h2]
  refine ⟨e, ?_⟩
  unfold behN; rw [e]; rfl
theorem beh_ok {y : Int} {legs : List Lg} {k : Nat} (h : addE (mineY y legs k) = 0) (h2 : bad k (addN (mineY y legs k)) = false) : behE y legs k = 0 ∧ behN y legs k = addN (mineY y legs k) := by
  have e : behE y legs k = 0 := by unfold behE; rw [if_neg (by simpa using h), if_neg (by rw [h2]; exact Bool.false_ne_true)]
  refine ⟨e, ?_⟩
  unfold behN; rw [if_pos e]
theorem may_any (W : World) (k : Nat) (x : Int) (b : Bool) (hb : bad k x = !b) : Calls Tryz.prog 139 #[.int .i64 (k : Nat), .int .i64 x] W fun e w' => e = .returned (.bool b) ∧ W = w' := by
  by_cases hk : k = 0
  · subst hk
    refine may_world W x b ?_
    unfold bad at hb
    cases b <;> simp at hb ⊢ <;> omega
  · refine may_alloc W (k : Nat) x b (beq_false_of_ne (by omega)) ?_
    unfold bad at hb
    have : 0 < k := by omega
    cases b <;> simp [hk, this] at hb ⊢ <;> omega
set_option maxHeartbeats 8000000 in
theorem beh_any (W : World) (k : Nat) (y : Int) (a2 : Option Addr) (n2 c2 : Nat) (legs : List Lg) (hG : Legs W a2 n2 c2 legs) (hn2 : n2 ≤ 100) :
    Calls Tryz.prog 114 #[.int .i64 (k : Nat), .int .i64 y, .slice a2 n2 c2] W fun e W' => e = .returned (.tuple #[.int .i64 (behN y legs k), .int .i64 (behE y legs k)]) ∧ Below W.heap.size W W' := by
  have HG := Lib.hid (And.intro hG hG.len)
  clear hG
  go_enter Tryz.func114, Tryz.ntmps114
  go_wp2_with fail
  go_loopw [8, 17] (fun v i wr => ∃ q : Nat, q ≤ n2 ∧ i = .int .i64 (q : Nat) ∧ OwI wr W.heap.size v (y :: of (legs.take q) k) ∧ Below W.heap.size W wr) (fun _ i _ => n2 - (intOf i).toNat)
  case atStart => exact ⟨0, Nat.zero_le _, rfl, owns_lit W y W.heap.size (Nat.le_refl _), below_alloc _ _⟩
  case round =>
    obtain ⟨q, hq, rfl, hown, hb⟩ := hrel
    have HO := Lib.hid (And.intro hown hb)
    clear hown hb
    by_cases hlt : q < n2
    · have hql : q < legs.length := by rw [HG.out.2]; exact hlt
      obtain ⟨b2, o2, rfl⟩ := lst_at HG.out.1 (by omega)
      have hget := List.getElem?_eq_getElem hql
      obtain ⟨q0, q1⟩ := leg_cells (lst_keep encG_len HG.out.1 HO.out.2) hql
      have hot := of_take (k := k) hget
      generalize legs[q] = x at *
      obtain ⟨ac, am⟩ := x
      simp only at q0 q1 hot
      have hb1 := below_alloc wr (.cells #[.int .i64 ac, .int .i64 am] 49)
      have HB1 := Lib.hid (below_keep HO.out.2 hb1)
      clear hget
      by_cases hac : ac = (k : Int)
      · have HOt := Lib.hid (show of (legs.take (q + 1)) k = of (legs.take q) k ++ [am] by rw [hot, if_pos hac])
        have hlx : (of (legs.take q) k).length ≤ 100 := by
          have h1 := of_len (legs.take q) k
          rw [List.length_take] at h1
          omega
        subst hac
        obtain ⟨lx, hx⟩ : ∃ z, z = of (legs.take q) k := ⟨_, rfl⟩
        rw [← hx] at HO HOt hlx
        have hb2 := below_alloc (wr.alloc (.cells #[.int .i64 (k : Nat), .int .i64 am] 49)) (.cells #[.int .i64 am] 3)
        have HA1 := Lib.hid (own_chg' (own_chg' HO.out.1 hb1) hb2)
        have HA2 := Lib.hid (show Kit.Row encI 1 _ (some ⟨wr.heap.size + 1, 0, none⟩) [am] from row_new encI_len (wr.alloc (.cells #[.int .i64 (k : Nat), .int .i64 am] 49)) [am] #[.int .i64 am] 3 _ (by simp) rfl)
        have HA3 := Lib.hid (below_keep HB1.out hb2)
        have HD1 := Lib.hid (show (y :: lx).length + 1 ≤ maxLen by unfold maxLen; simp; omega)
        have HD2 := Lib.hid (show ((y :: lx).length + 1) * 8 ≤ 140737488355328 by simp; omega)
        clear hx hlx hot hb1 hb2
        go_wp2_with (first | (at_builtin; refine Two.append_apart encI_len Nat.zero_lt_one encI_one rfl (.tmp 25) (.tmp 28) 31 3 rfl Tryz.underlying31 (.int .i64 0) 8 info_i rfl W.heap.size _ (y :: lx) rfl HA1.out (some ⟨wr.heap.size + 1, 0, none⟩) 1 1 [am] rfl rfl HA2.out (fun h => by cases h) HD1.out HD2.out HA3.out.size ?_; intro v9 w9 ho9 hg9 hx9; have HB9 := Lib.hid (HA3.out.trans (Two.below_grown HA1.out hg9 HA3.out.size)); have HO9 := Lib.hid ho9; clear ho9 hg9 hx9) | fail)
        go_roundw
        case rel => exact ⟨q + 1, by omega, by go_num, by rw [HOt.out]; exact HO9.out, HB9.out⟩
        case measure => simp [intOf]; omega
      · have HOt := Lib.hid (show of (legs.take (q + 1)) k = of (legs.take q) k by rw [hot, if_neg hac, List.append_nil])
        have hne : (ac == (k : Int)) = false := beq_false_of_ne hac
        have HA1 := Lib.hid (own_chg' HO.out.1 hb1)
        clear hac hot hb1
        go_wp2_with fail
        go_roundw
        case rel => exact ⟨q + 1, by omega, by go_num, by rw [HOt.out]; exact HA1.out, HB1.out⟩
        case measure => simp [intOf]; omega
    · obtain rfl : n2 = q := by omega
      have htk : legs.take n2 = legs := List.take_of_length_le (by rw [HG.out.2]; exact Nat.le_refl _)
      rw [htk] at HO
      have HO2 : Hid (OwI wr W.heap.size _ (mineY y legs k) ∧ Below W.heap.size W wr) := HO
      clear HO
      obtain ⟨a15, c15, rfl, s1, s2, s3, s4⟩ := owns_row encI_len HO2.out.1
      have hel : Elems wr a15 (mineY y legs k) := ints_elems ⟨rfl, s1, s2, fun e => ⟨by have := s3 e; omega, s3 e⟩, s4⟩
      have HEm := Lib.hid (And.intro hel (show (mineY y legs k).length ≤ maxLen from Nat.le_trans s1 s2))
      obtain ⟨nm, hnm⟩ : ∃ nm, nm = (mineY y legs k).length := ⟨_, rfl⟩
      rw [← hnm]
      have HNm := Lib.hid hnm
      have HB := Lib.hid HO2.out.2
      clear htk hel s1 s2 s3 s4 hnm HO2
      go_wp2_with fail
      refine (add_any a15 nm c15 (mineY y legs k) wr HNm.out.symm (by rw [HNm.out]; exact HEm.out.2) HEm.out.1).mono ?_
      rintro e w3 ⟨rfl, rfl⟩
      by_cases hae : addE (mineY y legs k) = 0
      · rw [hae]
        cases hbad : bad k (addN (mineY y legs k)) with
        | true =>
          have HR := Lib.hid (beh_bad hae hbad)
          have HC := Lib.hid (may_any wr k (addN (mineY y legs k)) false hbad)
          clear hbad hae
          generalize addN (mineY y legs k) = sn at *
          go_wp2_with fail
          refine HC.out.mono ?_
          rintro e w4 ⟨rfl, rfl⟩
          go_wp2_with fail
          go_ret2
          exact ⟨by rw [HR.out.1, HR.out.2]; rfl, HB.out⟩
        | false =>
          have HR := Lib.hid (beh_ok hae hbad)
          have HC := Lib.hid (may_any wr k (addN (mineY y legs k)) true hbad)
          clear hbad hae
          generalize addN (mineY y legs k) = sn at *
          go_wp2_with fail
          refine HC.out.mono ?_
          rintro e w4 ⟨rfl, rfl⟩
          go_wp2_with fail
          go_ret2
          exact ⟨by rw [HR.out.1, HR.out.2]; rfl, HB.out⟩
      · have HR := Lib.hid (beh_add hae)
        rw [HR.out.2.2.1, HR.out.2.2.2]
        clear hae
        go_wp2_with fail
        go_ret2
        exact ⟨by rw [HR.out.1, HR.out.2.1]; rfl, HB.out⟩
end Go.Proofs.YtjcndgopijpibaaGreat.Led
/- Ledger, the landed: a list of allocations cloned. -/
namespace Go.Proofs.YtjcndgopijpibaaGreat.Led
set_option maxRecDepth 100000
open Go.RowKit
open Go.Sort
open Kit
open Mon
open Tre
set_option linter.unusedVariables false
variable {w w' : World}
theorem run_nil (w : World) : (binOp .eql 24 (.slice none 0 0) (.slice none 0 0)).run Tryz.prog w = .ok (.bool true) w := by
  simp only [binOp]
  simp [run_equal_slice_nil w 24 65 none 0 0 Tryz.underlying24]
theorem run_some (w : World) (a : Addr) (n c : Nat) : (binOp .eql 24 (.slice (some a) n c) (.slice none 0 0)).run Tryz.prog w = .ok (.bool false) w := by
  simp only [binOp]
  simp [run_equal_slice_nil w 24 65 (some a) n c Tryz.underlying24]
set_option maxHeartbeats 4000000 in
theorem clone_any (W : World) (a : Option Addr) (n c : Nat) (al : List Al) (hA : Allocs W a n c al) (hn : n ≤ 100) :
    Calls Tryz.prog 56 #[.slice a n c] W fun e W' => ∃ v, e = .returned v ∧ Owns encL 6 65 W' W.heap.size v al ∧ Below W.heap.size W W' := by
  have HL := Lib.hid (And.intro hA hA.len)
  clear hA
  cases a with
  | none =>
    obtain ⟨rfl, rfl⟩ := HL.out.1.nil rfl
    have hal : al = [] := List.eq_nil_of_length_eq_zero HL.out.2
    have HN := Lib.hid hal
    clear hal
    go_enter Tryz.func56, Tryz.ntmps56
    have hrun := run_nil W
    go_wp2_with fail
    go_ret
    exact ⟨_, rfl, by rw [HN.out]; exact owns_nil _ _ _, Below.refl _ _⟩
  | some a =>
    obtain ⟨lx, hx⟩ : ∃ lx, lx = al := ⟨_, rfl⟩
    have hb2 := below_alloc W (.cells #[] 65)
    have HA1 := Lib.hid (own_empty_al W W.heap.size (Nat.le_refl _))
    have HA2 := Lib.hid (lst_keep encL_len HL.out.1 hb2)
    have HD1 := Lib.hid (show ([] : List Al).length + n ≤ maxLen by unfold maxLen; simp; omega)
    have HD2 := Lib.hid (show (([] : List Al).length + n) * 48 ≤ 140737488355328 by simp; omega)
    have HN := Lib.hid hb2
    have hrun := run_some W a n c
    clear hx hb2
    go_enter Tryz.func56, Tryz.ntmps56
    go_wp2_with (first | (at_builtin; refine Two.append_apart encL_len (by decide) encL_one rfl (.tmp 5) (.tmp 6) 24 65 rfl Tryz.underlying24 (.agg #[.int .i64 0, .int .i64 0, .int .i64 0, .int .i64 0, .int .i64 0, .int .i64 0]) 48 info_al rfl W.heap.size _ [] rfl HA1.out (some a) n c al rfl HL.out.2 HA2.out.row (fun h => by cases h) HD1.out HD2.out HN.out.size ?_; intro v9 w9 ho9 hg9 hx9; have HB9 := Lib.hid (HN.out.trans (Two.below_grown HA1.out hg9 HN.out.size)); have HO9 := Lib.hid ho9; clear ho9 hg9 hx9) | fail)
    go_ret
    exact ⟨_, rfl, HO9.out, HB9.out⟩
end Go.Proofs.YtjcndgopijpibaaGreat.Led
