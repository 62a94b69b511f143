/- Money: what nodes cost; the fixed facts. -/
import Derived.Test.YtioaaamkpfglmaaMonMul
namespace Go.Proofs.Ytioaaamkpfglmaa.Mon
open Go.RowKit

def costN (a b c : Int) : Int := if a < 0 ∨ b < 0 ∨ c < 0 then 0 else mulN [a, b, c]
def costE (a b c : Int) : Int := if a < 0 ∨ b < 0 ∨ c < 0 then 1 else mulE [a, b, c]
theorem cost_neg {a b c : Int} (h : a < 0 ∨ b < 0 ∨ c < 0) : costN a b c = 0 ∧ costE a b c = 1 := by unfold costN costE; rw [if_pos h, if_pos h]; exact ⟨rfl, rfl⟩
theorem cost_pos {a b c : Int} (h : ¬ (a < 0 ∨ b < 0 ∨ c < 0)) : costN a b c = mulN [a, b, c] ∧ costE a b c = mulE [a, b, c] := by unfold costN costE; rw [if_neg h, if_neg h]; exact ⟨rfl, rfl⟩

theorem elems_new (w : World) (A : Array Value) (T : TypeId) (l : List Int) (n : Nat) (hn : n = w.heap.size) (h : ∀ j, j < l.length → A[j]? = some (.int .i64 (l.getD j 0))) : Elems (w.alloc (.cells A T)) (some ⟨n, 0, none⟩) l :=
  .inr ⟨_, _, rfl, fun j hj => by rw [Nat.zero_add, hn, World.cell?_alloc_new]; exact h j hj⟩
theorem elems_two (a b : Int) : ∀ j, j < [a, b].length → (#[Value.int .i64 a, Value.int .i64 b] : Array Value)[j]? = some (.int .i64 ([a, b].getD j 0)) := by
  intro j hj
  match j, hj with
  | 0, _ => rfl
  | 1, _ => rfl
theorem elems_three (a b c : Int) : ∀ j, j < [a, b, c].length → (#[Value.int .i64 a, Value.int .i64 b, Value.int .i64 c] : Array Value)[j]? = some (.int .i64 ([a, b, c].getD j 0)) := by
  intro j hj
  match j, hj with
  | 0, _ => rfl
  | 1, _ => rfl
  | 2, _ => rfl

theorem cost_any (a b c : Int) (w : World) :
    Calls Try.prog 14 #[.int .i64 a, .int .i64 b, .int .i64 c] w fun e w' => e = .returned (.tuple #[.int .i64 (costN a b c), .int .i64 (costE a b c)]) ∧ Below w.heap.size w w' := by
  by_cases h : a < 0 ∨ b < 0 ∨ c < 0
  · have HC := Lib.hid (cost_neg h)
    by_cases h1 : a < 0
    · clear h
      go_enter Try.func14, Try.ntmps14
      go_wp2
      go_ret2
      exact ⟨ret_two HC.out.1.symm HC.out.2.symm, Below.refl _ _⟩
    · by_cases h2 : b < 0
      · clear h
        go_enter Try.func14, Try.ntmps14
        go_wp2
        go_ret2
        exact ⟨ret_two HC.out.1.symm HC.out.2.symm, Below.refl _ _⟩
      · have h3 : c < 0 := by omega
        clear h
        go_enter Try.func14, Try.ntmps14
        go_wp2
        go_ret2
        exact ⟨ret_two HC.out.1.symm HC.out.2.symm, Below.refl _ _⟩
  · have HC := Lib.hid (cost_pos h)
    have h1 : ¬ a < 0 := by omega
    have h2 : ¬ b < 0 := by omega
    have h3 : ¬ c < 0 := by omega
    clear h
    go_enter Try.func14, Try.ntmps14
    go_wp2_with fail
    refine (mul_any _ 3 3 [a, b, c] _ rfl (by unfold maxLen; omega) (elems_new _ _ _ _ _ (by simp) (elems_three a b c))).mono ?_
    rintro e w' ⟨rfl, rfl⟩
    go_wp2_with fail
    go_ret2
    exact ⟨ret_two HC.out.1.symm HC.out.2.symm, (Below.refl _ _).alloc (Nat.le_refl _) _⟩

theorem add_is (a : Option Addr) (len cap : Nat) (l : List Int) (n e : Int) (w : World) (hl : l.length = len) (hm : len ≤ maxLen) (hE : Elems w a l) (hn : addN l = n) (he : addE l = e) :
    Calls Try.prog 8 #[.slice a len cap] w fun r w' => r = .returned (.tuple #[.int .i64 n, .int .i64 e]) ∧ w = w' := by
  rw [← hn, ← he]; exact add_any a len cap l w hl hm hE

theorem mul_is (a : Option Addr) (len cap : Nat) (l : List Int) (n e : Int) (w : World) (hl : l.length = len) (hm : len ≤ maxLen) (hE : Elems w a l) (hn : mulN l = n) (he : mulE l = e) :
    Calls Try.prog 12 #[.slice a len cap] w fun r w' => r = .returned (.tuple #[.int .i64 n, .int .i64 e]) ∧ w = w' := by
  rw [← hn, ← he]; exact mul_any a len cap l w hl hm hE

theorem cost_is (a b c : Int) (n e : Int) (w : World) (hn : costN a b c = n) (he : costE a b c = e) :
    Calls Try.prog 14 #[.int .i64 a, .int .i64 b, .int .i64 c] w fun r w' => r = .returned (.tuple #[.int .i64 n, .int .i64 e]) ∧ Below w.heap.size w w' := by
  rw [← hn, ← he]; exact cost_any a b c w

theorem aw0 : addN [5, -7, 4] = 2 ∧ addE [5, -7, 4] = 0 := by decide
theorem aw1 : addN [1152921504606846976, 1, -1] = 0 ∧ addE [1152921504606846976, 1, -1] = 2 := by decide
theorem aw2 : mulN [1073741824, 1073741824] = 1152921504606846976 ∧ mulE [1073741824, 1073741824] = 0 := by decide
theorem aw3 : mulN [2147483648, 1073741824, 0] = 0 ∧ mulE [2147483648, 1073741824, 0] = 2 := by decide
theorem aw4 : costN 3 4 5 = 60 ∧ costE 3 4 5 = 0 := by decide

theorem awake_any (w : World) : Calls Try.prog 11 #[] w fun e w' => e = .returned (.bool true) ∧ Below w.heap.size w w' := by
  go_enter Try.func11, Try.ntmps11
  go_wp2_with fail
  refine (add_is _ 3 3 [5, -7, 4] 2 0 _ rfl (by unfold maxLen; omega) (elems_new _ _ _ _ _ (by simp) (elems_three 5 (-7) 4)) aw0.1 aw0.2).mono ?_
  rintro e w' ⟨rfl, rfl⟩
  go_wp2_with fail
  refine (add_is _ 3 3 [1152921504606846976, 1, -1] 0 2 _ rfl (by unfold maxLen; omega) (elems_new _ _ _ _ _ (by simp) (elems_three 1152921504606846976 1 (-1))) aw1.1 aw1.2).mono ?_
  rintro e w' ⟨rfl, rfl⟩
  go_wp2_with fail
  refine (mul_is _ 2 2 [1073741824, 1073741824] 1152921504606846976 0 _ rfl (by unfold maxLen; omega) (elems_new _ _ _ _ _ (by simp) (elems_two 1073741824 1073741824)) aw2.1 aw2.2).mono ?_
  rintro e w' ⟨rfl, rfl⟩
  go_wp2_with fail
  refine (mul_is _ 3 3 [2147483648, 1073741824, 0] 0 2 _ rfl (by unfold maxLen; omega) (elems_new _ _ _ _ _ (by simp) (elems_three 2147483648 1073741824 0)) aw3.1 aw3.2).mono ?_
  rintro e w' ⟨rfl, rfl⟩
  go_wp2_with fail
  refine (cost_is 3 4 5 60 0 _ aw4.1 aw4.2).mono ?_
  rintro e w' ⟨rfl, hb⟩
  go_wp2_with fail
  go_ret
  exact ⟨rfl, (((((Below.refl _ _).alloc (Nat.le_refl _) _).alloc (by simp) _).alloc (by simp; omega) _).alloc (by simp; omega) _).trans (hb.mono (by simp; omega))⟩

theorem ret_slice {a : Option Addr} {m n c : Nat} (h : m = n) : Ending.returned (.slice a m c) = .returned (.slice a n c) := by rw [h]

theorem few_any (a : Option Addr) (len cap : Nat) (w : World) (hc : len ≤ cap) (hm : cap ≤ maxLen) :
    Calls Try.prog 9 #[.slice a len cap] w fun e w' => e = .returned (.slice a (min len 100) cap) ∧ w = w' := by
  unfold maxLen at hm
  by_cases h : 100 < len
  · have HM := Lib.hid (show 100 = min len 100 by omega)
    have hd : decide ((100 : Int) < (len : Int)) = true := by simp; omega
    go_enter Try.func9, Try.ntmps9
    go_wp2
    go_ret
    exact ⟨ret_slice HM.out, rfl⟩
  · have HM := Lib.hid (show len = min len 100 by omega)
    have hd : decide ((100 : Int) < (len : Int)) = false := by simp; omega
    go_enter Try.func9, Try.ntmps9
    go_wp2
    go_ret
    exact ⟨ret_slice HM.out, rfl⟩

end Go.Proofs.Ytioaaamkpfglmaa.Mon
