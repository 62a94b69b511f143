/- Tree: the laws' fixed fact. -/
import Derived.Test.YtpciijihedlheaaTreLGd
import Derived.Test.YtpciijihedlheaaTreLOv
namespace Go.Proofs.Ytpciijihedlheaa.Tre
set_option maxRecDepth 100000
open Go.RowKit
open Go.Sort
open Kit
open Mon
set_option linter.unusedVariables false
variable {w w' : World}

abbrev f0 : List Fd := [⟨⟨#[97]⟩, -1, 5⟩, ⟨⟨#[98]⟩, 0, 9⟩, ⟨⟨#[99]⟩, 1, 0⟩]
abbrev y0 : List Al := [⟨2, 0, 0, 0, 2, 4⟩]
abbrev f1 : List Fd := [⟨⟨#[97]⟩, 0, 0⟩]
theorem f0_good : goodB f0 = true := by decide +kernel
theorem f1_good : goodB f1 = false := by decide +kernel
theorem f0_path : path f0 2 = [2, 1, 0] := by decide +kernel
theorem f0_use : useN f0 y0 0 = 6 ∧ useE f0 y0 0 = 0 := by decide +kernel
theorem f0_over : over f0 y0 = 0 ∧ over f0 [] = -1 := by decide +kernel
theorem small_ok (n : Int) (h : -100 ≤ n ∧ n ≤ 100) : inI n := by unfold inI; omega
theorem f0_ok : ∀ x ∈ f0, x.ok := by
  intro x hx
  simp at hx
  rcases hx with rfl | rfl | rfl
  all_goals exact ⟨by unfold maxLen; decide, small_ok _ (by decide), small_ok _ (by decide)⟩
theorem f1_ok : ∀ x ∈ f1, x.ok := by
  intro x hx
  simp at hx
  subst hx
  exact ⟨by unfold maxLen; decide, small_ok _ (by decide), small_ok _ (by decide)⟩
theorem y0_ok : ∀ x ∈ y0, x.ok := by
  intro x hx
  simp at hx
  subst hx
  exact ⟨small_ok _ (by decide), small_ok _ (by decide), small_ok _ (by decide), small_ok _ (by decide), small_ok _ (by decide), small_ok _ (by decide)⟩
theorem lst_new {α : Type} {enc : α → List Value} {size : Nat} (hs : ∀ x, (enc x).length = size) (w : World) (l : List α) (A : Array Value) (T : TypeId) (n m : Nat) (hn : n = w.heap.size) (hA : A.toList = flat enc l) (hm : l.length = m) (hl : m ≤ 1000) : Lst enc size (w.alloc (.cells A T)) (some ⟨n, 0, none⟩) m m l :=
  ⟨hm, Nat.le_refl _, by unfold maxLen; omega, (fun h => by cases h), row_new hs w l A T n hn hA⟩
theorem lst_none {α : Type} (enc : α → List Value) (size : Nat) (w : World) : Lst enc size w none 0 0 ([] : List α) := ⟨rfl, Nat.le_refl _, Nat.zero_le _, fun _ => ⟨rfl, rfl⟩, .inl rfl⟩

abbrev wA (w : World) : World := w.alloc (.cells #[.string ⟨#[97]⟩, .int .i64 (-1), .int .i64 5, .string ⟨#[98]⟩, .int .i64 0, .int .i64 9, .string ⟨#[99]⟩, .int .i64 1, .int .i64 0] 40)
abbrev wB (w : World) : World := (wA w).alloc (.cells #[.int .i64 2, .int .i64 0, .int .i64 0, .int .i64 0, .int .i64 2, .int .i64 4] 43)
theorem wB_is (w : World) : Below w.heap.size w (wB w) ∧ Funds (wB w) (some ⟨w.heap.size, 0, none⟩) 3 3 f0 ∧ Allocs (wB w) (some ⟨w.heap.size + 1, 0, none⟩) 1 1 y0 :=
  ⟨below_keep (below_alloc w _) (below_alloc (wA w) _), lst_keep encF_len (lst_new encF_len w f0 _ _ _ 3 rfl rfl rfl (by omega)) (below_alloc (wA w) _), lst_new encL_len (wA w) y0 _ _ _ 1 (by simp) rfl rfl (by omega)⟩

set_option maxHeartbeats 4000000 in
theorem awake_any (w : World) : Calls Try.prog 8 #[] w fun e w' => e = .returned (.bool true) ∧ Below w.heap.size w w' := by
  have HB := Lib.hid (wB_is w)
  have HU := Lib.hid (use_any f0 f0_ok _ 3 3 y0 y0_ok _ 1 1 (wB w) HB.out.2.1 (by omega) HB.out.2.2 (by omega) 0)
  rw [f0_use.1, f0_use.2] at HU
  go_enter Try.func8, Try.ntmps8
  go_wp2_with fail
  refine HU.out.mono ?_
  rintro e w1 ⟨rfl, hb1⟩
  have HB1 := Lib.hid (And.intro (below_keep HB.out.1 hb1) (And.intro (lst_keep encF_len HB.out.2.1 hb1) (lst_keep encL_len HB.out.2.2 hb1)))
  clear hb1 HB HU
  have HG := Lib.hid (good_any f0 f0_ok _ 3 3 w1 HB1.out.2.1 (by omega))
  rw [f0_good] at HG
  go_wp2_with fail
  refine HG.out.mono ?_
  rintro e w2 ⟨rfl, hb2⟩
  have HB2 := Lib.hid (And.intro (below_keep HB1.out.1 hb2) (And.intro (lst_keep encF_len HB1.out.2.1 hb2) (lst_keep encL_len HB1.out.2.2 hb2)))
  clear hb2 HB1 HG
  have HP := Lib.hid (path_any f0 f0_ok _ 3 3 w2 HB2.out.2.1 (by omega) 2)
  rw [f0_path] at HP
  go_wp2_with fail
  refine HP.out.mono ?_
  rintro e w3 ⟨v3, rfl, hn3, hb3⟩
  obtain ⟨a3, c3, rfl, hl3, -⟩ := hn3
  have HB3 := Lib.hid (And.intro (below_keep HB2.out.1 hb3) (And.intro (lst_keep encF_len HB2.out.2.1 hb3) (And.intro (lst_keep encL_len HB2.out.2.2 hb3) hl3)))
  clear hb3 HB2 HP hl3
  have HI := Lib.hid (ints_any a3 (some ⟨w3.heap.size, 0, none⟩) 3 c3 3 3 [2, 1, 0] [2, 1, 0] (w3.alloc (.cells #[.int .i64 2, .int .i64 1, .int .i64 0] 3)) (lst_keep encI_len HB3.out.2.2.2 (below_alloc _ _)) (lst_new encI_len w3 [2, 1, 0] _ _ _ 3 rfl rfl rfl (by omega)))
  rw [show decide (([2, 1, 0] : List Int) = [2, 1, 0]) = true from rfl] at HI
  have HB4 := Lib.hid (below_alloc w3 (.cells #[.int .i64 2, .int .i64 1, .int .i64 0] 3))
  simp only [List.length_cons, List.length_nil, Nat.zero_add, Nat.reduceAdd]
  go_wp2_with fail
  refine HI.out.mono ?_
  rintro e w5 ⟨rfl, hb5⟩
  have hb35 := below_keep HB4.out hb5
  have HB5 := Lib.hid (And.intro (below_keep HB3.out.1 hb35) (And.intro (lst_keep encF_len HB3.out.2.1 hb35) (lst_keep encL_len HB3.out.2.2.1 hb35)))
  clear hb5 hb35 HB3 HB4 HI
  have HO := Lib.hid (over_any f0 f0_ok _ 3 3 y0 y0_ok _ 1 1 w5 HB5.out.2.1 (by omega) HB5.out.2.2 (by omega))
  rw [f0_over.1] at HO
  go_wp2_with fail
  refine HO.out.mono ?_
  rintro e w6 ⟨rfl, hb6⟩
  have HB6 := Lib.hid (And.intro (below_keep HB5.out.1 hb6) (And.intro (lst_keep encF_len HB5.out.2.1 hb6) (lst_keep encL_len HB5.out.2.2 hb6)))
  clear hb6 HB5 HO
  have HO2 := Lib.hid (over_any f0 f0_ok _ 3 3 [] (fun _ h => by cases h) none 0 0 w6 HB6.out.2.1 (by omega) (lst_none encL 6 w6) (by omega))
  rw [f0_over.2] at HO2
  go_wp2_with fail
  refine HO2.out.mono ?_
  rintro e w7 ⟨rfl, hb7⟩
  have HB7 := Lib.hid (below_keep HB6.out.1 hb7)
  clear hb7 HB6 HO2
  have HG2 := Lib.hid (good_any f1 f1_ok (some ⟨w7.heap.size, 0, none⟩) 1 1 (w7.alloc (.cells #[.string ⟨#[97]⟩, .int .i64 0, .int .i64 0] 40)) (lst_new encF_len w7 f1 _ _ _ 1 rfl rfl rfl (by omega)) (by omega))
  rw [f1_good] at HG2
  have HB8 := Lib.hid (below_keep HB7.out (below_alloc w7 (.cells #[.string ⟨#[97]⟩, .int .i64 0, .int .i64 0] 40)))
  go_wp2_with fail
  refine HG2.out.mono ?_
  rintro e w9 ⟨rfl, hb9⟩
  have HB9 := Lib.hid (below_keep HB8.out hb9)
  clear hb9
  go_wp2_with fail
  go_ret
  exact ⟨rfl, HB9.out⟩
end Go.Proofs.Ytpciijihedlheaa.Tre
