/- Order: the laws' fixed fact, over any order that does as it should. -/
import Derived.Test.YtkjkhfkaihncdaaOrdFew
import Derived.Test.YtkjkhfkaihncdaaIntsEq
import Derived.Test.YtkjkhfkaihncdaaArrs
namespace Go.Proofs.Ytkjkhfkaihncdaa.Ord
set_option maxRecDepth 100000
open Go.RowKit
open Go.Sort
open Kit
open Tre (Lst inI lst_keep lst_take lst_at lst_new lst_none IntsL int_cell encI encI_len NewI ints_any)
open Job (Jb Jv Jobs encJ encJ_len job_cell)
open Drw (Dw)
set_option linter.unusedVariables false
variable {w w' : World}
deriving instance DecidableEq for Dw
deriving instance DecidableEq for Aq

abbrev j0 : List Jv := [⟨⟨1, 0, 7, 0, 0, 1, 0, 1, 0, 0, 0, []⟩, none, 0, 0⟩, ⟨⟨2, 0, 0, 9, 0, 5, 0, 1, 0, 0, 0, []⟩, none, 0, 0⟩, ⟨⟨3, 0, 0, 0, 0, 1, 0, 1, 0, 0, 0, []⟩, none, 0, 0⟩, ⟨⟨4, 0, 0, 0, 0, 9, 0, 2, 0, 0, 0, []⟩, none, 0, 0⟩]
theorem aw_ord : ord (ts j0) = [1, 0, 2] := by decide
theorem aw_places : places (ts j0) = [1, 0, 2] := by unfold places; rw [aw_ord]; rfl
theorem aw_asks : asksOf (ts j0) = [⟨0, 9⟩, ⟨7, 0⟩, ⟨0, 0⟩] := by unfold asksOf; rw [aw_ord]; rfl
theorem j0_in (w : World) : ∀ x ∈ j0, x.In w := by
  intro x hx
  have : x.a = none ∧ x.n = 0 ∧ x.c = 0 ∧ x.t.draws = [] := by
    simp [j0] at hx
    rcases hx with rfl | rfl | rfl | rfl <;> exact ⟨rfl, rfl, rfl, rfl⟩
  unfold Jv.In
  rw [this.1, this.2.1, this.2.2.1, this.2.2.2]
  exact lst_none _ _ _
theorem j0_ok : ∀ x ∈ j0, x.t.ok := by
  intro x hx
  simp [j0] at hx
  rcases hx with rfl | rfl | rfl | rfl <;> (unfold Jb.ok inI; simp)
abbrev cJ : Array Value := #[.int .i64 1, .int .i64 0, .int .i64 7, .int .i64 0, .int .i64 0, .int .i64 1, .int .i64 0, .int .i64 1, .int .i64 0, .int .i64 0, .int .i64 0, .slice none 0 0, .int .i64 2, .int .i64 0, .int .i64 0, .int .i64 9, .int .i64 0, .int .i64 5, .int .i64 0, .int .i64 1, .int .i64 0, .int .i64 0, .int .i64 0, .slice none 0 0, .int .i64 3, .int .i64 0, .int .i64 0, .int .i64 0, .int .i64 0, .int .i64 1, .int .i64 0, .int .i64 1, .int .i64 0, .int .i64 0, .int .i64 0, .slice none 0 0, .int .i64 4, .int .i64 0, .int .i64 0, .int .i64 0, .int .i64 0, .int .i64 9, .int .i64 0, .int .i64 2, .int .i64 0, .int .i64 0, .int .i64 0, .slice none 0 0]
theorem j0_lst (w : World) : Jobs (w.alloc (.cells cJ 32)) (some ⟨w.heap.size, 0, none⟩) 4 4 j0 := lst_new encJ_len w j0 _ _ _ 4 (by simp) rfl rfl (by omega)
abbrev wI (w : World) : World := w.alloc (.cells #[.int .i64 1, .int .i64 0, .int .i64 2] 3)
theorem i3_lst (w : World) : IntsL (wI w) (some ⟨w.heap.size, 0, none⟩) 3 3 [1, 0, 2] := lst_new encI_len w [1, 0, 2] _ _ _ 3 rfl rfl rfl (by omega)
set_option maxHeartbeats 4000000 in
theorem awake_any (hP : Prog) (w : World) : Calls Try.prog 9 #[] w fun e w' => e = .returned (.bool true) ∧ Below w.heap.size w w' := by
  have HP := Lib.hid hP
  have H1 := Lib.hid (And.intro (below_alloc w (.cells cJ 32)) (j0_lst w))
  have HC1 := Lib.hid (hP.asks _ _ 4 4 j0 (j0_lst w) (j0_in _) j0_ok (by omega))
  clear hP
  go_enter Try.func9, Try.ntmps9
  go_wp2_with fail
  refine HC1.out.mono ?_
  rw [aw_asks]
  rintro e w2 ⟨v2, rfl, ⟨a2, c2, rfl, hq2, -⟩, hb2⟩
  simp only [List.length_cons, List.length_nil, Nat.zero_add, Nat.reduceAdd] at hq2 ⊢
  have H2 := Lib.hid (And.intro (below_keep H1.out.1 hb2) (And.intro hq2 (lst_keep encJ_len H1.out.2 hb2)))
  have HC2 := Lib.hid (HP.out.order w2 _ 4 4 j0 H2.out.2.2 (j0_in _) j0_ok (by omega))
  clear hb2 hq2 HC1
  go_wp2_with fail
  refine HC2.out.mono ?_
  rw [aw_places]
  rintro e w3 ⟨v3, rfl, ⟨a3, c3, rfl, hi3, -⟩, hb3⟩
  simp only [List.length_cons, List.length_nil, Nat.zero_add, Nat.reduceAdd] at hi3 ⊢
  have hb4 := below_keep hb3 (below_alloc w3 (.cells #[.int .i64 1, .int .i64 0, .int .i64 2] 3))
  have HC3 := Lib.hid (ints_any a3 (some ⟨w3.heap.size, 0, none⟩) 3 c3 3 3 [1, 0, 2] [1, 0, 2] (wI w3) (lst_keep encI_len hi3 (below_alloc w3 _)) (i3_lst w3))
  have H4 := Lib.hid (And.intro (below_keep H2.out.1 hb4) (lst_keep encQ_len H2.out.2.1 hb4))
  clear hi3 hb3 hb4 HC2
  go_wp2_with fail
  refine HC3.out.mono ?_
  rintro e w5 ⟨rfl, hb5⟩
  have hq5 := lst_keep encQ_len H4.out.2 hb5
  obtain ⟨b, o, rfl⟩ := lst_at hq5 (by simp)
  have q0 := ask_cells hq5 (k := 0) (by simp)
  have q1 := ask_cells hq5 (k := 1) (by simp)
  simp only [List.getElem_cons_zero, List.getElem_cons_succ, Nat.zero_mul, Nat.add_zero, Nat.one_mul] at q0 q1
  obtain ⟨q00, q01⟩ := q0
  obtain ⟨q10, q11⟩ := q1
  have H5 := Lib.hid (below_keep H4.out.1 hb5)
  clear hq5 hb5 HC3
  go_wp2_with fail
  go_ret
  exact ⟨rfl, H5.out⟩
end Go.Proofs.Ytkjkhfkaihncdaa.Ord
