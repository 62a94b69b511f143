/- Ledger, the landed: which accounts there are, where an account's amount lies, what is in it. -/
import Derived.Test.YtmlbdmfmaebdeaaLedAns
import Derived.Test.YtmlbdmfmaebdeaaPut
namespace Go.Proofs.Ytmlbdmfmaebdeaa.Led
set_option maxRecDepth 100000
open Go.RowKit
open Go.Sort
open Kit
open Mon
open Tre
set_option linter.unusedVariables false
variable {w w' : World}

theorem is_yes (W : World) (a : Option Addr) (n c : Nat) (k : Int) (hn : n ≤ 100) (h0 : 0 ≤ k) (h1 : k ≤ 3 * (n : Int)) :
    Calls Try.prog 25 #[.slice a n c, .int .i64 k] W fun e w' => e = .returned (.bool true) ∧ W = w' := by
  go_enter Try.func25, Try.ntmps25
  go_wp2_with fail
  go_ret
  exact ⟨rfl, rfl⟩
theorem is_no (W : World) (a : Option Addr) (n c : Nat) (k : Int) (hn : n ≤ 100) (h : k < 0 ∨ 3 * (n : Int) < k) :
    Calls Try.prog 25 #[.slice a n c, .int .i64 k] W fun e w' => e = .returned (.bool false) ∧ W = w' := by
  have h2 : decide (0 ≤ k) = false ∨ (0 ≤ k ∧ decide (k ≤ 3 * (n : Int)) = false) := by
    rcases h with h | h
    · exact .inl (by simp; omega)
    · exact .inr ⟨by omega, by simp; omega⟩
  clear h
  rcases h2 with h2 | ⟨h1, h2⟩
  all_goals
    go_enter Try.func25, Try.ntmps25
    go_wp2_with fail
    go_ret
    exact ⟨rfl, rfl⟩
theorem may_world (W : World) (x : Int) (b : Bool) (hb : decide (x ≤ 0) = b) : Calls Try.prog 28 #[.int .i64 0, .int .i64 x] W fun e w' => e = .returned (.bool b) ∧ W = w' := by
  go_enter Try.func28, Try.ntmps28
  go_wp2_with fail
  go_ret
  exact ⟨rfl, rfl⟩
theorem may_alloc (W : World) (k x : Int) (b : Bool) (hk : (k == 0) = false) (hb : decide (0 ≤ x) = b) : Calls Try.prog 28 #[.int .i64 k, .int .i64 x] W fun e w' => e = .returned (.bool b) ∧ W = w' := by
  go_enter Try.func28, Try.ntmps28
  go_wp2_with fail
  go_ret
  exact ⟨rfl, rfl⟩
theorem addr_world (W : World) (p : Option Addr) (a : Option Addr) (n c : Nat) : Calls Try.prog 21 #[.pointer p, .slice a n c, .int .i64 0] W fun e w' => e = .returned (.pointer p) ∧ W = w' := by
  go_enter Try.func21, Try.ntmps21
  go_wp2_with fail
  go_ret
  exact ⟨rfl, rfl⟩
theorem addr_no (W : World) (p : Option Addr) (a : Option Addr) (n c : Nat) (k : Int) (hn : n ≤ 100) (h : k < 0 ∨ 3 * (n : Int) < k) : Calls Try.prog 21 #[.pointer p, .slice a n c, .int .i64 k] W fun e w' => e = .returned (.pointer none) ∧ W = w' := by
  have hk : (k == 0) = false := beq_false_of_ne (by omega)
  have HC := Lib.hid (is_no W a n c k hn h)
  clear h
  go_enter Try.func21, Try.ntmps21
  go_wp2_with fail
  refine HC.out.mono ?_
  rintro e w1 ⟨rfl, rfl⟩
  go_wp2_with fail
  go_ret
  exact ⟨rfl, rfl⟩
theorem quo_three {i r : Nat} (hr : r < 3) : Int.tdiv ((3 * i + r : Nat) : Int) 3 = (i : Nat) := by
  rw [Int.tdiv_eq_ediv_of_nonneg (by omega)]; omega
theorem rem_three {i r : Nat} (hr : r < 3) : Int.tmod ((3 * i + r : Nat) : Int) 3 = (r : Nat) := by
  rw [Int.tmod_eq_emod_of_nonneg (by omega)]; omega
theorem addr_at (W : World) (p : Option Addr) (b o n c i r : Nat) (hn : n ≤ 100) (hi : i < n) (hr : r < 3) : Calls Try.prog 21 #[.pointer p, .slice (some ⟨b, o, none⟩) n c, .int .i64 ((1 + 3 * i + r : Nat) : Int)] W fun e w' => e = .returned (.pointer (some ⟨b, o + i * 6 + (3 + r), none⟩)) ∧ W = w' := by
  have HC := Lib.hid (is_yes W (some ⟨b, o, none⟩) n c ((1 + 3 * i + r : Nat) : Int) hn (by omega) (by omega))
  have hq := quo_three (i := i) hr
  have hm := rem_three (i := i) hr
  obtain ⟨j, hj⟩ : ∃ j, j = 3 * i + r := ⟨_, rfl⟩
  rw [show 1 + 3 * i + r = j + 1 by omega] at HC ⊢
  rw [← hj] at hq hm
  have hk : (((j + 1 : Nat) : Int) == 0) = false := beq_false_of_ne (by omega)
  have hj2 : j ≤ 1000 := by omega
  have HJ := Lib.hid hj
  clear hj
  match r, hr with
  | 0, _ =>
    go_enter Try.func21, Try.ntmps21
    go_wp2_with fail
    refine HC.out.mono ?_
    rintro e w1 ⟨rfl, rfl⟩
    go_wp2_with fail
    go_ret
    exact ⟨rfl, rfl⟩
  | 1, _ =>
    go_enter Try.func21, Try.ntmps21
    go_wp2_with fail
    refine HC.out.mono ?_
    rintro e w1 ⟨rfl, rfl⟩
    go_wp2_with fail
    go_ret
    exact ⟨rfl, rfl⟩
  | 2, _ =>
    go_enter Try.func21, Try.ntmps21
    go_wp2_with fail
    refine HC.out.mono ?_
    rintro e w1 ⟨rfl, rfl⟩
    go_wp2_with fail
    go_ret
    exact ⟨rfl, rfl⟩
theorem amount_any (W : World) (wd : Int) (a : Option Addr) (n c : Nat) (al : List Al) (k : Int) (hw : inI wd) (hA : Allocs W a n c al) (hok : ∀ x ∈ al, x.ok) (hn : n ≤ 100) (hki : inI k) :
    Calls Try.prog 15 #[.int .i64 wd, .slice a n c, .int .i64 k] W fun e W' => e = .returned (.tuple #[.int .i64 (if 0 ≤ k ∧ k < 1 + 3 * (n : Int) then (flatN wd al).getD k.toNat 0 else 0), .int .i64 (if 0 ≤ k ∧ k < 1 + 3 * (n : Int) then 0 else 4)]) ∧ Below W.heap.size W W' := by
  have HB := Lib.hid (below_alloc W (.cells #[.int .i64 wd] 3))
  by_cases hv : 0 ≤ k ∧ k < 1 + 3 * (n : Int)
  · rw [if_pos hv, if_pos hv]
    by_cases h0 : k = 0
    · subst h0
      have e0 : (flatN wd al).getD (0 : Int).toNat 0 = wd := rfl
      rw [e0]
      clear hv e0
      go_enter Try.func15, Try.ntmps15
      go_wp2_with fail
      refine (addr_world _ _ _ _ _).mono ?_
      rintro e w1 ⟨rfl, rfl⟩
      go_wp2_with fail
      go_ret2
      exact ⟨rfl, HB.out⟩
    · obtain ⟨i, r, hr, hi, rfl⟩ : ∃ i r : Nat, r < 3 ∧ i < n ∧ k = ((1 + 3 * i + r : Nat) : Int) := ⟨((k - 1).toNat) / 3, ((k - 1).toNat) % 3, by omega, by omega, by omega⟩
      have hil : i < al.length := by rw [hA.len]; exact hi
      obtain ⟨b, o, rfl⟩ := lst_at hA (by omega)
      obtain ⟨x, hx⟩ : ∃ x, x = (flatN wd al).getD ((1 + 3 * i + r : Nat) : Int).toNat 0 := ⟨_, rfl⟩
      have hcell : (W.alloc (.cells #[.int .i64 wd] 3)).cell? ⟨b, o + i * 6 + (3 + r), none⟩ = some (.int .i64 x) := by
        obtain ⟨_, _, _, q3, q4, q5⟩ := alloc_cells6 hA hil
        obtain ⟨g3, g4, g5⟩ := flat_at al i al[i] wd (List.getElem?_eq_getElem hil)
        have hx2 : x = (flatN wd al).getD (1 + 3 * i + r) 0 := hx
        rcases (show r = 0 ∨ r = 1 ∨ r = 2 by omega) with e | e | e
        · rw [hx2, e, show 1 + 3 * i + 0 = 1 + 3 * i by omega, getD_at g3]; exact cell_alloc q3
        · rw [hx2, e, show 1 + 3 * i + 1 = 2 + 3 * i by omega, getD_at g4]; exact cell_alloc q4
        · rw [hx2, e, show 1 + 3 * i + 2 = 3 + 3 * i by omega, getD_at g5]; exact cell_alloc q5
      rw [← hx]
      have HC := Lib.hid (addr_at (W.alloc (.cells #[.int .i64 wd] 3)) (some ⟨W.heap.size, 0, none⟩) b o n c i r hn hi hr)
      obtain ⟨ad, had⟩ : ∃ ad, ad = o + i * 6 + (3 + r) := ⟨_, rfl⟩
      rw [← had] at hcell HC
      obtain ⟨z, hz⟩ : ∃ z, z = ((1 + 3 * i + r : Nat) : Int) := ⟨_, rfl⟩
      rw [← hz] at HC ⊢
      clear hx hv h0 hz had hil hA hok hki
      go_enter Try.func15, Try.ntmps15
      go_wp2_with fail
      refine HC.out.mono ?_
      rintro e w1 ⟨rfl, rfl⟩
      go_wp2_with fail
      go_ret2
      exact ⟨rfl, HB.out⟩
  · rw [if_neg hv, if_neg hv]
    have HC := Lib.hid (addr_no (W.alloc (.cells #[.int .i64 wd] 3)) (some ⟨W.heap.size, 0, none⟩) a n c k hn (by omega))
    clear hv hA hok
    go_enter Try.func15, Try.ntmps15
    go_wp2_with fail
    refine HC.out.mono ?_
    rintro e w1 ⟨rfl, rfl⟩
    go_wp2_with fail
    go_ret2
    exact ⟨rfl, HB.out⟩
end Go.Proofs.Ytmlbdmfmaebdeaa.Led
