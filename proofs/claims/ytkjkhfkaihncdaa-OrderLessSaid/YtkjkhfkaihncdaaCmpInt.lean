/- Common: the library's cmp.Compare and cmp.Or at ints. -/
import Derived.Test.YtkjkhfkaihncdaaIntMem
import Derived.Test.YtkjkhfkaihncdaaRegLst
import Derived.Test.YtkjkhfkaihncdaaRegChn
import Derived.Test.YtkjkhfkaihncdaaRegSeeN
import Derived.Deep.MidRow
namespace Go.Proofs.Ytkjkhfkaihncdaa.Cmp
set_option maxRecDepth 100000
open Go.RowKit
open Go.Sort
open Kit
open Tre (encI encI_len encI_one)
set_option linter.unusedVariables false
variable {w w' : World}

def cmpI (a b : Int) : Int := if a < b then -1 else if b < a then 1 else 0
def orI (a b : Int) : Int := if a ≠ 0 then a else b
/-- Two comparisons, the first one first: below 0. -/
theorem or_lt (a b c d : Int) : orI (cmpI a b) (cmpI c d) < 0 ↔ a < b ∨ (a = b ∧ c < d) := by
  unfold orI cmpI
  by_cases h1 : a < b
  · simp [h1]
  · by_cases h2 : b < a
    · rw [if_neg h1, if_pos h2]
      simp
      omega
    · rw [if_neg h1, if_neg h2]
      simp only [ne_eq, not_true_eq_false, if_false]
      split
      · constructor
        · intro _; omega
        · intro _; omega
      · split <;> constructor <;> intro _ <;> omega
theorem isnan_any (W : World) (x : Int) : Calls Try.prog 18 #[.int .i64 x] W fun e w' => e = .returned (.bool false) ∧ W = w' := by
  go_enter Try.func18, Try.ntmps18
  go_wp2
  go_ret
  exact ⟨by simp, rfl⟩
theorem compare_any (x y : Int) (W : World) : Calls Try.prog 16 #[.int .i64 x, .int .i64 y] W fun e w' => e = .returned (.int .i64 (cmpI x y)) ∧ W = w' := by
  by_cases h1 : x < y
  · have HC := Lib.hid (show cmpI x y = -1 by unfold cmpI; rw [if_pos h1])
    go_enter Try.func16, Try.ntmps16
    go_wp2_with fail
    refine (isnan_any W x).mono ?_
    rintro e w1 ⟨rfl, rfl⟩
    go_wp2_with fail
    refine (isnan_any W y).mono ?_
    rintro e w1 ⟨rfl, rfl⟩
    go_wp2_with fail
    go_ret
    exact ⟨by rw [HC.out]; rfl, rfl⟩
  · by_cases h2 : y < x
    · have HC := Lib.hid (show cmpI x y = 1 by unfold cmpI; rw [if_neg h1, if_pos h2])
      go_enter Try.func16, Try.ntmps16
      go_wp2_with fail
      refine (isnan_any W x).mono ?_
      rintro e w1 ⟨rfl, rfl⟩
      go_wp2_with fail
      refine (isnan_any W y).mono ?_
      rintro e w1 ⟨rfl, rfl⟩
      go_wp2_with fail
      go_ret
      exact ⟨by rw [HC.out]; rfl, rfl⟩
    · have HC := Lib.hid (show cmpI x y = 0 by unfold cmpI; rw [if_neg h1, if_neg h2])
      go_enter Try.func16, Try.ntmps16
      go_wp2_with fail
      refine (isnan_any W x).mono ?_
      rintro e w1 ⟨rfl, rfl⟩
      go_wp2_with fail
      refine (isnan_any W y).mono ?_
      rintro e w1 ⟨rfl, rfl⟩
      go_wp2_with fail
      go_ret
      exact ⟨by rw [HC.out]; rfl, rfl⟩
theorem or_any (x y : Int) (B : Nat) (W : World) (hr : Kit.Row encI 1 W (some ⟨B, 0, none⟩) [x, y]) : Calls Try.prog 15 #[.slice (some ⟨B, 0, none⟩) 2 2] W fun e w' => e = .returned (.int .i64 (orI x y)) ∧ W = w' := by
  have q0 : W.cell? ⟨B, 0, none⟩ = some (.int .i64 x) := row_cell hr (j := 0) (by simp) rfl (i := 0) (by omega)
  have q1 : W.cell? ⟨B, 1, none⟩ = some (.int .i64 y) := row_cell hr (j := 1) (by simp) rfl (i := 0) (by omega)
  clear hr
  go_enter Try.func15, Try.ntmps15
  go_wp2_with fail
  go_loop [5, 8] (fun _ i => ∃ k : Nat, k ≤ 2 ∧ i = .int .i64 (k : Nat) ∧ Hid (0 < k → x = 0) ∧ Hid (1 < k → y = 0)) (fun _ i => 2 - (intOf i).toNat)
  case atStart => exact ⟨0, by omega, rfl, Lib.hid (by omega), Lib.hid (by omega)⟩
  case round =>
    obtain ⟨k, hk, rfl, hx, hy⟩ := hrel
    by_cases hk0 : k = 0
    · subst hk0
      clear hx hy
      by_cases h0 : x = 0
      · subst h0
        go_wp2_with fail
        go_round
        case rel => exact ⟨1, by omega, rfl, Lib.hid (by simp), Lib.hid (by omega)⟩
        case measure => simp [intOf]
      · have HE := Lib.hid (show orI x y = x by unfold orI; rw [if_pos h0])
        go_wp2_with fail
        go_ret
        exact ⟨by rw [HE.out]; rfl, rfl⟩
    · have h0 := hx.out (by omega)
      subst h0
      by_cases hk1 : k = 1
      · subst hk1
        clear hx hy
        by_cases h1 : y = 0
        · subst h1
          go_wp2_with fail
          go_round
          case rel => exact ⟨2, by omega, rfl, Lib.hid (by simp), Lib.hid (by simp)⟩
          case measure => simp [intOf]
        · have HE := Lib.hid (show orI 0 y = y by unfold orI; rw [if_neg (by simp)])
          go_wp2_with fail
          go_ret
          exact ⟨by rw [HE.out]; rfl, rfl⟩
      · obtain rfl : k = 2 := by omega
        have h1 := hy.out (by omega)
        subst h1
        have HE := Lib.hid (show orI 0 0 = 0 by decide)
        go_wp2_with fail
        go_ret
        exact ⟨by rw [HE.out]; rfl, rfl⟩

theorem wp_two {P : Program} {o : Oper} {a : Act} {K : Act → World → Prop} {Q : Exit → Act → World → Prop} (t : TypeId) (x y : Operand) (ho : o.op = .buildSlice t 2 #[(0, x), (1, y)]) {vx vy u : Value} {w' : World} (hx : a.eval x = vx) (hy : a.eval y = vy) (hr : (Instr.buildSlice t 2 #[(0, vx), (1, vy)]).run P w = .ok u w') (h : K (a.put o.dst u) w') : o.wp P a w K Q :=
  Chn.wp_bs t 2 _ ho (by subst hx hy; simpa using hr) h
theorem run_two (x y : Int) (w : World) : (Instr.buildSlice 24 2 #[(0, .int .i64 x), (1, .int .i64 y)]).run Try.prog w = .ok (.slice (some ⟨w.heap.size, 0, none⟩) 2 2) (w.alloc (.cells #[.int .i64 x, .int .i64 y] 3)) := by
  simp [go_sem]
theorem row_two (w : World) (x y : Int) : Kit.Row encI 1 (w.alloc (.cells #[.int .i64 x, .int .i64 y] 3)) (some ⟨w.heap.size, 0, none⟩) [x, y] := row_new encI_len w [x, y] _ _ _ rfl rfl
def kTwo (x y : Int) : Rel.Kd Rel.Gr := ⟨fun w u => ∃ B, u = .slice (some ⟨B, 0, none⟩) 2 2 ∧ Kit.Row encI 1 w (some ⟨B, 0, none⟩) [x, y], fun _ _ _ h ⟨B, e, hr⟩ => ⟨B, e, row_keep encI_len hr h⟩⟩

end Go.Proofs.Ytkjkhfkaihncdaa.Cmp
