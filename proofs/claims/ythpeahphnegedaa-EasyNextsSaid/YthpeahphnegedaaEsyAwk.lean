/- Easy: the laws' fixed fact, over any easy that does as it should. -/
import Derived.Test.YthpeahphnegedaaEsyNx2
import Derived.Test.YthpeahphnegedaaAppFull
import Derived.Test.YthpeahphnegedaaEsyAns
namespace Go.Proofs.Ythpeahphnegedaa.Esy
set_option maxRecDepth 100000
open Go.RowKit
open Go.Sort
open Kit
open Tre (Lst inI lst_keep lst_take lst_at lst_new lst_none below_drewN' run_ld2)
open Prf (Bz newF Nd Tk Busys encZ encZ_len encZ_one info_busy OwZ own_busys)
open Go.Proofs.Ythpeahphnegedaa.Ord (Aq Asks encQ encQ_len ask_cells info_ask)
set_option linter.unusedVariables false
variable {w w' : World}

abbrev r1 : List Bz := [⟨5, 3⟩]
abbrev r2 : List Bz := [⟨5, 3⟩, ⟨5, 1⟩]
abbrev q3 : List Aq := [⟨2, 9⟩, ⟨1, 5⟩, ⟨1, 9⟩]
theorem aw_1 : nextI 0 4 r1 q3 [] = 1 ∧ nextB 0 4 r1 q3 [] = true := by decide +kernel
theorem aw_2 : nextB 0 4 r2 q3 [false, true] = false := by decide +kernel
theorem aw_3 : shT 0 4 r1 2 = 5 ∧ shX 0 4 r1 2 = 2 ∧ shB 0 4 r1 2 = true := by decide +kernel
theorem r1_ok : ∀ b ∈ r1, okB b := by
  intro b hb
  simp at hb
  subst hb
  exact ⟨⟨by simp, by simp⟩, ⟨by simp, by simp⟩⟩
theorem r2_ok : ∀ b ∈ r2, okB b := by
  intro b hb
  simp at hb
  rcases hb with rfl | rfl <;> exact ⟨⟨by simp, by simp⟩, ⟨by simp, by simp⟩⟩
theorem q3_ok : ∀ x ∈ q3, okQ x := by
  intro b hb
  simp at hb
  rcases hb with rfl | rfl | rfl <;> exact ⟨⟨by simp, by simp⟩, ⟨by simp, by simp⟩⟩
abbrev cR : Array Value := #[.int .i64 5, .int .i64 3]
abbrev cQ : Array Value := #[.int .i64 2, .int .i64 9, .int .i64 1, .int .i64 5, .int .i64 1, .int .i64 9]
set_option maxHeartbeats 4000000 in
theorem awake_any (hP : Prog) (w : World) : Calls Try.prog 13 #[] w fun e w' => e = .returned (.bool true) ∧ Below w.heap.size w w' := by
  have HP := Lib.hid hP
  clear hP
  have b1 := below_alloc w (.cells cR 37)
  obtain ⟨w1, hw1⟩ : ∃ x, x = w.alloc (.cells cR 37) := ⟨_, rfl⟩
  have l1 : Busys w1 (some ⟨w.heap.size, 0, none⟩) 1 1 r1 := by rw [hw1]; exact lst_new encZ_len w r1 _ _ _ 1 rfl rfl rfl (by omega)
  have hs1 : w1.heap.size = w.heap.size + 1 := by rw [hw1]; simp
  rw [← hw1] at b1
  have b2 := below_alloc w1 (.cells cQ 35)
  have l2 : Asks (w1.alloc (.cells cQ 35)) (some ⟨w.heap.size + 1, 0, none⟩) 3 3 q3 := by rw [← hs1]; exact lst_new encQ_len w1 q3 _ _ _ 3 rfl rfl rfl (by omega)
  have H2 := Lib.hid (And.intro (below_keep b1 b2) (And.intro (lst_keep encZ_len l1 b2) l2))
  have HW1 := Lib.hid hw1
  have HC1 := Lib.hid (HP.out.next (w1.alloc (.cells cQ 35)) 0 4 _ 1 1 r1 _ 3 3 q3 none 0 0 [] ⟨by omega, by omega⟩ ⟨by omega, by omega⟩ H2.out.2.1 r1_ok (by omega) H2.out.2.2 q3_ok (by omega) (lst_none _ _ _))
  rw [aw_1.1, aw_1.2] at HC1
  rw [hw1] at HC1 H2
  clear hw1 hs1 b1 b2 l1 l2 HW1
  clear w1
  go_enter Try.func13, Try.ntmps13
  go_wp2_with fail
  refine HC1.out.mono ?_
  rintro e w3 ⟨rfl, hb3⟩
  have H3 := Lib.hid (And.intro (below_keep H2.out.1 hb3) (And.intro (lst_keep encZ_len H2.out.2.1 hb3) (lst_keep encQ_len H2.out.2.2 hb3)))
  clear hb3 HC1 H2
  have ba := below_alloc w3 (.cells #[.int .i64 5, .int .i64 1] 37)
  have HA := Lib.hid (And.intro (below_keep H3.out.1 ba) (And.intro (lst_keep encZ_len H3.out.2.1 ba) (And.intro (lst_keep encQ_len H3.out.2.2 ba) (lst_new encZ_len w3 [(⟨5, 1⟩ : Bz)] #[.int .i64 5, .int .i64 1] 37 _ 1 rfl rfl rfl (by omega)))))
  have HD := Lib.hid (show 1 + 1 ≤ maxLen ∧ (1 + 1) * 16 ≤ 140737488355328 by unfold maxLen; omega)
  clear ba
  go_wp2_with (first | (at_builtin; refine Two.append_full encZ_len (by decide) rfl (.tmp 23) (.tmp 25) 22 37 rfl Try.underlying22 (.agg #[.int .i64 0, .int .i64 0]) 16 info_busy rfl ⟨w.heap.size, 0, none⟩ 1 1 r1 rfl rfl HA.out.2.1.row ⟨w3.heap.size, 0, none⟩ 1 1 [(⟨5, 1⟩ : Bz)] rfl rfl HA.out.2.2.2.row (by omega) HD.out.1 HD.out.2 ?_; intro v4 w4 ho4 hb4; have HO4 := Lib.hid (And.intro ho4 hb4); clear ho4 hb4) | fail)
  obtain ⟨a4, c4, rfl, l4⟩ := own_busys (show OwZ w4 _ v4 r2 from HO4.out.1)
  simp only [List.length_cons, List.length_nil, Nat.zero_add, Nat.reduceAdd] at l4 ⊢
  have bb := below_alloc w4 (.cells #[.bool false, .bool true] 4)
  have H5 := Lib.hid (And.intro (below_keep (below_keep HA.out.1 HO4.out.2) bb) (And.intro (lst_keep encZ_len (lst_keep encZ_len HA.out.2.1 HO4.out.2) bb) (lst_keep encQ_len (lst_keep encQ_len HA.out.2.2.1 HO4.out.2) bb)))
  have HC2 := Lib.hid (HP.out.next (w4.alloc (.cells #[.bool false, .bool true] 4)) 0 4 a4 2 c4 r2 _ 3 3 q3 (some ⟨w4.heap.size, 0, none⟩) 2 2 [false, true] ⟨by omega, by omega⟩ ⟨by omega, by omega⟩ (lst_keep encZ_len l4 bb) r2_ok (by omega) H5.out.2.2 q3_ok (by omega) (lst_new encO_len w4 [false, true] _ _ _ 2 rfl rfl rfl (by omega)))
  rw [aw_2] at HC2
  obtain ⟨ni, hni⟩ : ∃ ni, ni = nextI 0 4 r2 q3 [false, true] := ⟨_, rfl⟩
  rw [← hni] at HC2
  clear hni l4 bb HA HO4
  refine HC2.out.mono ?_
  rintro e w6 ⟨rfl, hb6⟩
  have H6 := Lib.hid (And.intro (below_keep H5.out.1 hb6) (lst_keep encZ_len H5.out.2.1 hb6))
  have HC3 := Lib.hid (HP.out.shadow w6 0 4 _ 1 1 r1 2 ⟨by omega, by omega⟩ ⟨by omega, by omega⟩ H6.out.2 r1_ok (by omega) ⟨by omega, by omega⟩)
  rw [aw_3.1, aw_3.2.1, aw_3.2.2] at HC3
  clear hb6 HC2 H5
  go_wp2_with fail
  refine HC3.out.mono ?_
  rintro e w7 ⟨rfl, hb7⟩
  have H7 := Lib.hid (below_keep H6.out.1 hb7)
  clear hb7 HC3
  go_wp2_with fail
  go_ret
  exact ⟨rfl, H7.out⟩
end Go.Proofs.Ythpeahphnegedaa.Esy
