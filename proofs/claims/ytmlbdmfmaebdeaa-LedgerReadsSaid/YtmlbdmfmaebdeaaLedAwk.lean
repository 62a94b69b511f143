/- Ledger: the laws' fixed fact, over any ledger that does as it should. -/
import Derived.Test.YtmlbdmfmaebdeaaLedSame
import Derived.Test.YtmlbdmfmaebdeaaLedAns
namespace Go.Proofs.Ytmlbdmfmaebdeaa.Led
set_option maxRecDepth 100000
open Go.RowKit
open Go.Sort
open Kit
open Mon
open Tre
set_option linter.unusedVariables false
variable {w w' : World}

abbrev a0 : List Al := [⟨7, 0, 0, 0, 0, 0⟩]
abbrev a1 : List Al := [⟨7, 0, 0, 5, 0, 0⟩]
abbrev a2 : List Al := [⟨7, 0, 0, 2, 3, 0⟩]
abbrev l1 : List Lg := [⟨0, -5⟩, ⟨1, 5⟩]
abbrev l2 : List Lg := [⟨1, -3⟩, ⟨2, 3⟩]
theorem aw1 : postW 0 a0 l1 = -5 ∧ postE 0 a0 l1 = 0 := by decide +kernel
theorem aw1A : postA 0 a0 l1 = a1 := by
  rw [postA_ok aw1.2]
  have h : postF 0 a0 l1 = [-5, 5, 0, 0] := by decide +kernel
  rw [h]; rfl
theorem aw2 : postW (-5) a1 l2 = -5 ∧ postE (-5) a1 l2 = 0 := by decide +kernel
theorem aw2A : postA (-5) a1 l2 = a2 := by
  rw [postA_ok aw2.2]
  have h : postF (-5) a1 l2 = [-5, 2, 3, 0] := by decide +kernel
  rw [h]; rfl
theorem aw3 : postE (-5) a2 l2 = 7 := by decide +kernel
theorem inI_small {n : Int} (h : -100 ≤ n ∧ n ≤ 100) : inI n := by unfold inI; omega
theorem ok_al {x : Al} (h : (-100 ≤ x.fund ∧ x.fund ≤ 100) ∧ (-100 ≤ x.from' ∧ x.from' ≤ 100) ∧ (-100 ≤ x.till ∧ x.till ≤ 100) ∧ (-100 ≤ x.avail ∧ x.avail ≤ 100) ∧ (-100 ≤ x.lien ∧ x.lien ≤ 100) ∧ (-100 ≤ x.spent ∧ x.spent ≤ 100)) : x.ok :=
  ⟨inI_small h.1, inI_small h.2.1, inI_small h.2.2.1, inI_small h.2.2.2.1, inI_small h.2.2.2.2.1, inI_small h.2.2.2.2.2⟩
theorem a0_ok : ∀ x ∈ a0, x.ok := by intro x hx; simp at hx; subst hx; exact ok_al (by decide)
theorem a1_ok : ∀ x ∈ a1, x.ok := by intro x hx; simp at hx; subst hx; exact ok_al (by decide)
theorem a2_ok : ∀ x ∈ a2, x.ok := by intro x hx; simp at hx; subst hx; exact ok_al (by decide)
theorem l1_ok : ∀ x ∈ l1, x.ok := by
  intro x hx; simp at hx
  rcases hx with rfl | rfl <;> exact ⟨inI_small (by decide), inI_small (by decide)⟩
theorem l2_ok : ∀ x ∈ l2, x.ok := by
  intro x hx; simp at hx
  rcases hx with rfl | rfl <;> exact ⟨inI_small (by decide), inI_small (by decide)⟩
abbrev wA (w : World) : World := w.alloc (.cells #[.int .i64 7, .int .i64 0, .int .i64 0, .int .i64 0, .int .i64 0, .int .i64 0] 45)
abbrev wB (w : World) : World := (wA w).alloc (.cells #[.int .i64 0, .int .i64 (-5), .int .i64 1, .int .i64 5] 43)
abbrev wC (w : World) : World := w.alloc (.cells #[.int .i64 1, .int .i64 (-3), .int .i64 2, .int .i64 3] 43)
abbrev wD (w : World) : World := w.alloc (.cells #[.int .i64 7, .int .i64 0, .int .i64 0, .int .i64 2, .int .i64 3, .int .i64 0] 45)

set_option maxHeartbeats 4000000 in
theorem awake_any (hP : Prog) (w : World) : Calls Try.prog 12 #[] w fun e w' => e = .returned (.bool true) ∧ Below w.heap.size w w' := by
  have H1 := Lib.hid (hP.post (wB w) 0 (some ⟨w.heap.size, 0, none⟩) 1 1 a0 (some ⟨w.heap.size + 1, 0, none⟩) 2 2 l1 (inI_small (by decide)) (lst_keep encL_len (lst_new encL_len w a0 _ _ _ 1 rfl rfl rfl (by omega)) (below_alloc (wA w) _)) a0_ok (by omega) (lst_new encG_len (wA w) l1 _ _ _ 2 (by simp) rfl rfl (by omega)) l1_ok (by omega))
  rw [aw1.1, aw1.2, aw1A] at H1
  have HB := Lib.hid (below_keep (below_alloc w (.cells #[.int .i64 7, .int .i64 0, .int .i64 0, .int .i64 0, .int .i64 0, .int .i64 0] 45)) (below_alloc (wA w) (.cells #[.int .i64 0, .int .i64 (-5), .int .i64 1, .int .i64 5] 43)))
  go_enter Try.func12, Try.ntmps12
  go_wp2_with fail
  refine H1.out.mono ?_
  rintro e w2 ⟨v2, rfl, ho2, hb2⟩
  obtain ⟨x2, c2, rfl, hA2⟩ := outA_lst ho2
  simp only [List.length_cons, List.length_nil, Nat.zero_add] at hA2 ⊢
  have HB2 := Lib.hid (below_keep HB.out hb2)
  have H2 := Lib.hid (hP.post (wC w2) (-5) x2 1 c2 a1 (some ⟨w2.heap.size, 0, none⟩) 2 2 l2 (inI_small (by decide)) (lst_keep encL_len hA2 (below_alloc w2 _)) a1_ok (by omega) (lst_new encG_len w2 l2 _ _ _ 2 rfl rfl rfl (by omega)) l2_ok (by omega))
  rw [aw2.1, aw2.2, aw2A] at H2
  have HB3 := Lib.hid (below_keep HB2.out (below_alloc w2 (.cells #[.int .i64 1, .int .i64 (-3), .int .i64 2, .int .i64 3] 43)))
  clear ho2 hb2 hA2 H1
  go_wp2_with fail
  refine H2.out.mono ?_
  rintro e w3 ⟨v3, rfl, ho3, hb3⟩
  obtain ⟨x3, c3, rfl, hA3⟩ := outA_lst ho3
  simp only [List.length_cons, List.length_nil, Nat.zero_add] at hA3 ⊢
  have HB4 := Lib.hid (below_keep HB3.out hb3)
  have H3 := Lib.hid (hP.post (wC w3) (-5) x3 1 c3 a2 (some ⟨w3.heap.size, 0, none⟩) 2 2 l2 (inI_small (by decide)) (lst_keep encL_len hA3 (below_alloc w3 _)) a2_ok (by omega) (lst_new encG_len w3 l2 _ _ _ 2 rfl rfl rfl (by omega)) l2_ok (by omega))
  rw [postW_no (by rw [aw3]; decide), aw3] at H3
  have HA3 := Lib.hid (lst_keep encL_len hA3 (below_alloc w3 (.cells #[.int .i64 1, .int .i64 (-3), .int .i64 2, .int .i64 3] 43)))
  have HB5 := Lib.hid (below_keep HB4.out (below_alloc w3 (.cells #[.int .i64 1, .int .i64 (-3), .int .i64 2, .int .i64 3] 43)))
  clear ho3 hb3 hA3 H2
  go_wp2_with fail
  refine H3.out.mono ?_
  rintro e w4 ⟨v4, rfl, ho4, hb4⟩
  have HA4 := Lib.hid (lst_keep encL_len HA3.out hb4)
  have HB6 := Lib.hid (below_keep HB5.out hb4)
  have H4 := Lib.hid (hP.amount w4 (-5) x3 1 c3 a2 2 (inI_small (by decide)) HA4.out a2_ok (by omega) (inI_small (by decide)))
  rw [show (if (0 : Int) ≤ 2 ∧ (2 : Int) < 1 + 3 * ((1 : Nat) : Int) then (flatN (-5) a2).getD (2 : Int).toNat 0 else 0) = 3 from rfl, show (if (0 : Int) ≤ 2 ∧ (2 : Int) < 1 + 3 * ((1 : Nat) : Int) then (0 : Int) else 4) = 0 from rfl] at H4
  clear ho4 hb4 H3
  go_wp2_with fail
  refine H4.out.mono ?_
  rintro e w5 ⟨rfl, hb5⟩
  have H5 := Lib.hid (same_any x3 (some ⟨w5.heap.size, 0, none⟩) 1 c3 1 a2 (wD w5) (lst_keep encL_len HA4.out (below_keep hb5 (below_alloc w5 _))) (lst_new encL_len w5 a2 _ _ _ 1 rfl rfl rfl (by omega)))
  have HB7 := Lib.hid (below_keep HB6.out (below_keep hb5 (below_alloc w5 (.cells #[.int .i64 7, .int .i64 0, .int .i64 0, .int .i64 2, .int .i64 3, .int .i64 0] 45))))
  clear hb5 H4
  go_wp2_with fail
  refine H5.out.mono ?_
  rintro e w6 ⟨rfl, hb6⟩
  have HB8 := Lib.hid (below_keep HB7.out hb6)
  clear hb6
  go_wp2_with fail
  go_ret
  exact ⟨rfl, HB8.out⟩
end Go.Proofs.Ytmlbdmfmaebdeaa.Led
