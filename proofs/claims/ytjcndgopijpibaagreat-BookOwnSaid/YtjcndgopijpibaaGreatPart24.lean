/- Common to the claims of this seat, part 24: texts that were written one by one, laid behind one another. -/
import Derived.Deep.DeepAppendRoom
import Derived.Test.YtjcndgopijpibaaGreatPart6
import Derived.Test.YtjcndgopijpibaaGreatPart11
import Derived.Test.YtjcndgopijpibaaGreatPart15
import Derived.Test.YtjcndgopijpibaaGreatPart19
import Derived.Test.YtjcndgopijpibaaGreatPart23
/- Book, the landed: what is wrong with a transaction, whatever its kind would say. -/
namespace Go.Proofs.YtjcndgopijpibaaGreat.Bok
set_option maxRecDepth 100000
open Go.RowKit
open Go.Sort
open Kit
open Foot
open Tre (Lst inI lst_keep lst_at lst_new lst_none encF encF_len encL_len IntsL goodB)
open Led (Lg encG encG_len)
open Snp (Sn Sv encK encK_len encK_one)
set_option linter.unusedVariables false
variable {w w' W0 W : World} {B : Nat}
theorem run_lssI {a b : Int} {r : Bool} (h : decide (a < b) = r) (x y : Operand) (w : World) : (do eqGuard .lss 3 x y (.int .i64 a) (.int .i64 b); binOp .lss 3 (.int .i64 a) (.int .i64 b) : Sem Value).run Tryz.prog w = .ok (.bool r) w := by
  subst h
  simp [go_sem]
theorem run_gtrI {a b : Int} {r : Bool} (h : decide (b < a) = r) (x y : Operand) (w : World) : (do eqGuard .gtr 3 x y (.int .i64 a) (.int .i64 b); binOp .gtr 3 (.int .i64 a) (.int .i64 b) : Sem Value).run Tryz.prog w = .ok (.bool r) w := by
  subst h
  simp [go_sem]
theorem emp_iff (s : ByteArray) : s.toList.isEmpty = decide (s.size = 0) := by
  rw [ByteArray.toList_eq]
  show s.data.toList.isEmpty = decide (s.data.size = 0)
  rw [← Array.length_toList]
  cases s.data.toList <;> simp
set_option maxHeartbeats 16000000 in
theorem mayAsk_any (W : World) (ka : Option Addr) (kn kc : Nat) (keys : List ByteArray) (hK : Lst encK 1 W ka kn kc keys) (sq tm kd : Int) (ky nm : ByteArray) (aa ga : Option Addr) (na cp gn gc : Nat) (args : List Int) (legs : List Lg) (hna : args.length = na) :
    Calls Tryz.prog 34 #[.slice ka kn kc, .agg #[.int .i64 sq, .int .i64 tm, .int .i64 kd, .string ky, .string nm, .slice aa na cp, .slice ga gn gc]] W fun e w' => e = .returned (.int .i64 (if formB ⟨sq, tm, kd, ky, nm, args, legs⟩ then 1 else if ky.size ≠ 0 ∧ hasK keys ky = true then 6 else 0)) ∧ Below W.heap.size W w' := by
  obtain ⟨E, hE⟩ : ∃ E : Int, E = if formB ⟨sq, tm, kd, ky, nm, args, legs⟩ then 1 else if ky.size ≠ 0 ∧ hasK keys ky = true then 6 else 0 := ⟨_, rfl⟩
  rw [← hE]
  have hF : formB ⟨sq, tm, kd, ky, nm, args, legs⟩ = true ↔ tm < 0 ∨ 1099511627776 < tm ∨ many kd ≠ (na : Int) ∨ 16 < ky.size ∨ 16 < nm.size ∨ (nm.size ≠ 0 ∧ kd ≠ 1) ∨ (ky.size ≠ 0 ∧ ¬ (kd ≤ 7 ∨ kd = 13)) := by
    unfold formB
    simp only [Bool.or_eq_true, Bool.and_eq_true, decide_eq_true_eq, hna]
    omega
  have HE1 := Lib.hid (fun h : tm < 0 ∨ 1099511627776 < tm ∨ many kd ≠ (na : Int) ∨ 16 < ky.size ∨ 16 < nm.size ∨ (nm.size ≠ 0 ∧ kd ≠ 1) ∨ (ky.size ≠ 0 ∧ ¬ (kd ≤ 7 ∨ kd = 13)) => show E = 1 by rw [hE, if_pos (hF.2 h)])
  have HE0 := Lib.hid (fun h : ¬ (tm < 0 ∨ 1099511627776 < tm ∨ many kd ≠ (na : Int) ∨ 16 < ky.size ∨ 16 < nm.size ∨ (nm.size ≠ 0 ∧ kd ≠ 1) ∨ (ky.size ≠ 0 ∧ ¬ (kd ≤ 7 ∨ kd = 13))) => show E = if ky.size ≠ 0 ∧ hasK keys ky = true then 6 else 0 by rw [hE, if_neg (fun e => h (hF.1 e))])
  have hba := below_alloc W (.cells #[.int .i64 sq, .int .i64 tm, .int .i64 kd, .string ky, .string nm, .slice aa na cp, .slice ga gn gc] 34)
  have htb := tx_box W sq tm kd ky nm aa ga na cp gn gc
  obtain ⟨wa, hwa⟩ : ∃ z, z = W.alloc (.cells #[.int .i64 sq, .int .i64 tm, .int .i64 kd, .string ky, .string nm, .slice aa na cp, .slice ga gn gc] 34) := ⟨_, rfl⟩
  rw [← hwa] at htb hba
  have HWa := Lib.hid hwa
  have HQ := Lib.hid (show wa.cell? ⟨W.heap.size, 1, none⟩ = some (.int .i64 tm) ∧ wa.cell? ⟨W.heap.size, 5, none⟩ = some (.slice aa na cp) ∧ wa.cell? ⟨W.heap.size, 2, none⟩ = some (.int .i64 kd) from ⟨Arr.blk_cell htb 1, Arr.blk_cell htb 5, Arr.blk_cell htb 2⟩)
  have HT := Lib.hid (And.intro htb (And.intro hba (lst_keep encK_len hK hba)))
  clear hE hF hba htb hwa hK hna
  go_enter Tryz.func34, Tryz.ntmps34
  go_upto_region 1 with fail
  rw [← HWa.out]
  by_cases h0 : tm < 0
  · have HT0 := Lib.hid (show decide (tm < 0) = true from decide_eq_true h0)
    have HT1 := Lib.hid (show decide (tm < 0) = true from decide_eq_true h0)
    have HT2 := Lib.hid trivial
    have hE1 : E = 1 := HE1.out (.inl h0)
    subst hE1
    clear h0
    refine Rel.wp_region_rel (G := Rel.Gr) (Rel.tab [.is (.pointer (some ⟨W.heap.size, 1, none⟩)), .is (.int .i64 tm), .is (.bool true), .is (.bool true), .is undef, .is undef, .is undef, .is (.bool true), .is (.bool true), .is undef, .is undef, .is undef, .is undef, .is undef, .is undef, .is undef, .is (.bool true)]) (fun _ w => Below wa.heap.size wa w) (by kernel_rfl) (by kernel_rfl) (by kernel_rfl) (by kernel_rfl) (fun w => Rel.gr_refl _) (below_drew _) ?_ ?_
    · refine ⟨?_, ?_, ?_, ?_, ?_, ?_, ?_, ?_, ?_, ?_, ?_, ?_, ?_, ?_, ?_, ?_, ?_, trivial⟩
      · intro L a w c
        refine .inl ⟨Rel.wanted_free (by kernel_rfl) _, ?_⟩
        exact Chn.wp_fa _ _ _ rfl (c.old 3 (v := .pointer (some ⟨W.heap.size, 0, none⟩)) (by kernel_rfl) (by kernel_rfl)) (by simp [go_sem]) ⟨_, rfl, Rel.gr_refl _, rfl, c.inv⟩
      · intro L a w c
        refine .inl ⟨Rel.wanted_free (by kernel_rfl) _, ?_⟩
        exact Rel.wp_ld _ _ rfl (c.get 0 5 (by kernel_rfl)) (run_ldI (cell_keep c.inv HQ.out.1)) ⟨_, rfl, Rel.gr_refl _, rfl, c.inv⟩
      · intro L a w c
        refine .inl ⟨Rel.wanted_free (by kernel_rfl) _, ?_⟩
        exact Rel.wp_bo _ _ _ _ _ rfl (u := .bool true) (c.get 1 6 (by kernel_rfl)) rfl (run_lssI HT0.out _ _ w) ⟨_, rfl, Rel.gr_refl _, rfl, c.inv⟩
      · intro L a w c
        refine .inl ⟨Rel.wanted_free (by kernel_rfl) _, ?_⟩
        exact Rel.wp_mv _ rfl ⟨_, rfl, Rel.gr_refl _, (c.get 2 7 (by kernel_rfl)), c.inv⟩
      · intro L a w c
        exact .inr ⟨Chn.wanted_not (j := 3) (b := false) (d := 8) (by kernel_rfl) (c.get 3 8 (by kernel_rfl)), rfl, c.inv⟩
      · intro L a w c
        exact .inr ⟨Chn.wanted_not (j := 3) (b := false) (d := 8) (by kernel_rfl) (c.get 3 8 (by kernel_rfl)), rfl, c.inv⟩
      · intro L a w c
        exact .inr ⟨Chn.wanted_not (j := 3) (b := false) (d := 8) (by kernel_rfl) (c.get 3 8 (by kernel_rfl)), rfl, c.inv⟩
      · intro L a w c
        refine .inl ⟨Rel.wanted_free (by kernel_rfl) _, ?_⟩
        exact Rel.wp_pk _ _ _ rfl (b := true) (c.get 3 8 (by kernel_rfl)) ⟨_, rfl, Rel.gr_refl _, rfl, c.inv⟩
      · intro L a w c
        refine .inl ⟨Rel.wanted_free (by kernel_rfl) _, ?_⟩
        exact Rel.wp_mv _ rfl ⟨_, rfl, Rel.gr_refl _, (c.get 7 12 (by kernel_rfl)), c.inv⟩
      · intro L a w c
        exact .inr ⟨Chn.wanted_not (j := 8) (b := false) (d := 13) (by kernel_rfl) (c.get 8 13 (by kernel_rfl)), rfl, c.inv⟩
      · intro L a w c
        exact .inr ⟨Chn.wanted_not (j := 8) (b := false) (d := 13) (by kernel_rfl) (c.get 8 13 (by kernel_rfl)), rfl, c.inv⟩
      · intro L a w c
        exact .inr ⟨Chn.wanted_not (j := 8) (b := false) (d := 13) (by kernel_rfl) (c.get 8 13 (by kernel_rfl)), rfl, c.inv⟩
      · intro L a w c
        exact .inr ⟨Chn.wanted_not (j := 8) (b := false) (d := 13) (by kernel_rfl) (c.get 8 13 (by kernel_rfl)), rfl, c.inv⟩
      · intro L a w c
        exact .inr ⟨Chn.wanted_not (j := 8) (b := false) (d := 13) (by kernel_rfl) (c.get 8 13 (by kernel_rfl)), rfl, c.inv⟩
      · intro L a w c
        exact .inr ⟨Chn.wanted_not (j := 8) (b := false) (d := 13) (by kernel_rfl) (c.get 8 13 (by kernel_rfl)), rfl, c.inv⟩
      · intro L a w c
        exact .inr ⟨Chn.wanted_not (j := 8) (b := false) (d := 13) (by kernel_rfl) (c.get 8 13 (by kernel_rfl)), rfl, c.inv⟩
      · intro L a w c
        refine .inl ⟨Rel.wanted_free (by kernel_rfl) _, ?_⟩
        exact Rel.wp_pk _ _ _ rfl (b := true) (c.get 8 13 (by kernel_rfl)) ⟨_, rfl, Rel.gr_refl _, rfl, c.inv⟩
    intro a w1 hbase hroom hdef hJ hV
    have s21 : Rel.slot a 21 = .bool true := hV 16 _ _ rfl rfl
    rw [Chn.act_puts [5, 6, 7, 8, 9, 10, 11, 12, 13, 14, 15, 16, 17, 18, 19, 20, 21] hbase hroom hdef (by kernel_rfl)]
    clear hbase hroom hdef hV
    simp only [List.foldl_cons, List.foldl_nil]
    generalize Rel.slot a 5 = u5 at *
    generalize Rel.slot a 6 = u6 at *
    generalize Rel.slot a 7 = u7 at *
    generalize Rel.slot a 8 = u8 at *
    generalize Rel.slot a 9 = u9 at *
    generalize Rel.slot a 10 = u10 at *
    generalize Rel.slot a 11 = u11 at *
    generalize Rel.slot a 12 = u12 at *
    generalize Rel.slot a 13 = u13 at *
    generalize Rel.slot a 14 = u14 at *
    generalize Rel.slot a 15 = u15 at *
    generalize Rel.slot a 16 = u16 at *
    generalize Rel.slot a 17 = u17 at *
    generalize Rel.slot a 18 = u18 at *
    generalize Rel.slot a 19 = u19 at *
    generalize Rel.slot a 20 = u20 at *
    rw [s21]
    clear s21
    simp only [Act.put, List.setIfInBounds_toArray, List.set_cons_succ, List.set_cons_zero]
    have HJ := Lib.hid (below_keep HT.out.2.1 hJ)
    clear hJ
    go_wp2_with fail
    go_ret
    exact ⟨rfl, HJ.out⟩
  by_cases h1 : 1099511627776 < tm
  · have HT0 := Lib.hid (show decide (tm < 0) = false from decide_eq_false h0)
    have HT1 := Lib.hid (show decide (1099511627776 < tm) = true from decide_eq_true h1)
    have HT2 := Lib.hid trivial
    have hE1 : E = 1 := HE1.out (.inr (.inl h1))
    subst hE1
    clear h0 h1
    refine Rel.wp_region_rel (G := Rel.Gr) (Rel.tab [.is (.pointer (some ⟨W.heap.size, 1, none⟩)), .is (.int .i64 tm), .is (.bool false), .is (.bool false), .is (.pointer (some ⟨W.heap.size, 1, none⟩)), .is (.int .i64 tm), .is (.bool true), .is (.bool true), .is (.bool true), .is undef, .is undef, .is undef, .is undef, .is undef, .is undef, .is undef, .is (.bool true)]) (fun _ w => Below wa.heap.size wa w) (by kernel_rfl) (by kernel_rfl) (by kernel_rfl) (by kernel_rfl) (fun w => Rel.gr_refl _) (below_drew _) ?_ ?_
    · refine ⟨?_, ?_, ?_, ?_, ?_, ?_, ?_, ?_, ?_, ?_, ?_, ?_, ?_, ?_, ?_, ?_, ?_, trivial⟩
      · intro L a w c
        refine .inl ⟨Rel.wanted_free (by kernel_rfl) _, ?_⟩
        exact Chn.wp_fa _ _ _ rfl (c.old 3 (v := .pointer (some ⟨W.heap.size, 0, none⟩)) (by kernel_rfl) (by kernel_rfl)) (by simp [go_sem]) ⟨_, rfl, Rel.gr_refl _, rfl, c.inv⟩
      · intro L a w c
        refine .inl ⟨Rel.wanted_free (by kernel_rfl) _, ?_⟩
        exact Rel.wp_ld _ _ rfl (c.get 0 5 (by kernel_rfl)) (run_ldI (cell_keep c.inv HQ.out.1)) ⟨_, rfl, Rel.gr_refl _, rfl, c.inv⟩
      · intro L a w c
        refine .inl ⟨Rel.wanted_free (by kernel_rfl) _, ?_⟩
        exact Rel.wp_bo _ _ _ _ _ rfl (u := .bool false) (c.get 1 6 (by kernel_rfl)) rfl (run_lssI HT0.out _ _ w) ⟨_, rfl, Rel.gr_refl _, rfl, c.inv⟩
      · intro L a w c
        refine .inl ⟨Rel.wanted_free (by kernel_rfl) _, ?_⟩
        exact Rel.wp_mv _ rfl ⟨_, rfl, Rel.gr_refl _, (c.get 2 7 (by kernel_rfl)), c.inv⟩
      · intro L a w c
        refine .inl ⟨Rel.wanted_by (j := 3) (b := false) (d := 8) (by kernel_rfl) (c.get 3 8 (by kernel_rfl)), ?_⟩
        exact Chn.wp_fa _ _ _ rfl (c.old 3 (v := .pointer (some ⟨W.heap.size, 0, none⟩)) (by kernel_rfl) (by kernel_rfl)) (by simp [go_sem]) ⟨_, rfl, Rel.gr_refl _, rfl, c.inv⟩
      · intro L a w c
        refine .inl ⟨Rel.wanted_by (j := 3) (b := false) (d := 8) (by kernel_rfl) (c.get 3 8 (by kernel_rfl)), ?_⟩
        exact Rel.wp_ld _ _ rfl (c.get 4 9 (by kernel_rfl)) (run_ldI (cell_keep c.inv HQ.out.1)) ⟨_, rfl, Rel.gr_refl _, rfl, c.inv⟩
      · intro L a w c
        refine .inl ⟨Rel.wanted_by (j := 3) (b := false) (d := 8) (by kernel_rfl) (c.get 3 8 (by kernel_rfl)), ?_⟩
        exact Rel.wp_bo _ _ _ _ _ rfl (u := .bool true) (c.get 5 10 (by kernel_rfl)) rfl (run_gtrI HT1.out _ _ w) ⟨_, rfl, Rel.gr_refl _, rfl, c.inv⟩
      · intro L a w c
        refine .inl ⟨Rel.wanted_free (by kernel_rfl) _, ?_⟩
        exact Rel.wp_pk _ _ _ rfl (b := false) (c.get 3 8 (by kernel_rfl)) ⟨_, rfl, Rel.gr_refl _, (c.get 6 11 (by kernel_rfl)), c.inv⟩
      · intro L a w c
        refine .inl ⟨Rel.wanted_free (by kernel_rfl) _, ?_⟩
        exact Rel.wp_mv _ rfl ⟨_, rfl, Rel.gr_refl _, (c.get 7 12 (by kernel_rfl)), c.inv⟩
      · intro L a w c
        exact .inr ⟨Chn.wanted_not (j := 8) (b := false) (d := 13) (by kernel_rfl) (c.get 8 13 (by kernel_rfl)), rfl, c.inv⟩
      · intro L a w c
        exact .inr ⟨Chn.wanted_not (j := 8) (b := false) (d := 13) (by kernel_rfl) (c.get 8 13 (by kernel_rfl)), rfl, c.inv⟩
      · intro L a w c
        exact .inr ⟨Chn.wanted_not (j := 8) (b := false) (d := 13) (by kernel_rfl) (c.get 8 13 (by kernel_rfl)), rfl, c.inv⟩
      · intro L a w c
        exact .inr ⟨Chn.wanted_not (j := 8) (b := false) (d := 13) (by kernel_rfl) (c.get 8 13 (by kernel_rfl)), rfl, c.inv⟩
      · intro L a w c
        exact .inr ⟨Chn.wanted_not (j := 8) (b := false) (d := 13) (by kernel_rfl) (c.get 8 13 (by kernel_rfl)), rfl, c.inv⟩
      · intro L a w c
        exact .inr ⟨Chn.wanted_not (j := 8) (b := false) (d := 13) (by kernel_rfl) (c.get 8 13 (by kernel_rfl)), rfl, c.inv⟩
      · intro L a w c
        exact .inr ⟨Chn.wanted_not (j := 8) (b := false) (d := 13) (by kernel_rfl) (c.get 8 13 (by kernel_rfl)), rfl, c.inv⟩
      · intro L a w c
        refine .inl ⟨Rel.wanted_free (by kernel_rfl) _, ?_⟩
        exact Rel.wp_pk _ _ _ rfl (b := true) (c.get 8 13 (by kernel_rfl)) ⟨_, rfl, Rel.gr_refl _, rfl, c.inv⟩
    intro a w1 hbase hroom hdef hJ hV
    have s21 : Rel.slot a 21 = .bool true := hV 16 _ _ rfl rfl
    rw [Chn.act_puts [5, 6, 7, 8, 9, 10, 11, 12, 13, 14, 15, 16, 17, 18, 19, 20, 21] hbase hroom hdef (by kernel_rfl)]
    clear hbase hroom hdef hV
    simp only [List.foldl_cons, List.foldl_nil]
    generalize Rel.slot a 5 = u5 at *
    generalize Rel.slot a 6 = u6 at *
    generalize Rel.slot a 7 = u7 at *
    generalize Rel.slot a 8 = u8 at *
    generalize Rel.slot a 9 = u9 at *
    generalize Rel.slot a 10 = u10 at *
    generalize Rel.slot a 11 = u11 at *
    generalize Rel.slot a 12 = u12 at *
    generalize Rel.slot a 13 = u13 at *
    generalize Rel.slot a 14 = u14 at *
    generalize Rel.slot a 15 = u15 at *
    generalize Rel.slot a 16 = u16 at *
    generalize Rel.slot a 17 = u17 at *
    generalize Rel.slot a 18 = u18 at *
    generalize Rel.slot a 19 = u19 at *
    generalize Rel.slot a 20 = u20 at *
    rw [s21]
    clear s21
    simp only [Act.put, List.setIfInBounds_toArray, List.set_cons_succ, List.set_cons_zero]
    have HJ := Lib.hid (below_keep HT.out.2.1 hJ)
    clear hJ
    go_wp2_with fail
    go_ret
    exact ⟨rfl, HJ.out⟩
  have HT0 := Lib.hid (show decide (tm < 0) = false from decide_eq_false h0)
  have HT1 := Lib.hid (show decide (1099511627776 < tm) = false from decide_eq_false h1)
  by_cases h2 : (na : Int) = many kd
  rotate_left
  · have HT2 := Lib.hid (show ((na : Int) == many kd) = !true from beq_false_of_ne h2)
    have hE1 : E = 1 := HE1.out (.inr (.inr (.inl (fun h => h2 h.symm))))
    subst hE1
    clear h0 h1 h2
    refine Rel.wp_region_rel (G := Rel.Gr) (Rel.tab [.is (.pointer (some ⟨W.heap.size, 1, none⟩)), .is (.int .i64 tm), .is (.bool false), .is (.bool false), .is (.pointer (some ⟨W.heap.size, 1, none⟩)), .is (.int .i64 tm), .is (.bool false), .is (.bool false), .is (.bool false), .is (.pointer (some ⟨W.heap.size, 5, none⟩)), .is (.slice aa na cp), .is (.int .i64 (na : Nat)), .is (.pointer (some ⟨W.heap.size, 2, none⟩)), .is (.int .i64 kd), .is (.int .i64 (many kd)), .is (.bool true), .is (.bool true)]) (fun _ w => Below wa.heap.size wa w) (by kernel_rfl) (by kernel_rfl) (by kernel_rfl) (by kernel_rfl) (fun w => Rel.gr_refl _) (below_drew _) ?_ ?_
    · refine ⟨?_, ?_, ?_, ?_, ?_, ?_, ?_, ?_, ?_, ?_, ?_, ?_, ?_, ?_, ?_, ?_, ?_, trivial⟩
      · intro L a w c
        refine .inl ⟨Rel.wanted_free (by kernel_rfl) _, ?_⟩
        exact Chn.wp_fa _ _ _ rfl (c.old 3 (v := .pointer (some ⟨W.heap.size, 0, none⟩)) (by kernel_rfl) (by kernel_rfl)) (by simp [go_sem]) ⟨_, rfl, Rel.gr_refl _, rfl, c.inv⟩
      · intro L a w c
        refine .inl ⟨Rel.wanted_free (by kernel_rfl) _, ?_⟩
        exact Rel.wp_ld _ _ rfl (c.get 0 5 (by kernel_rfl)) (run_ldI (cell_keep c.inv HQ.out.1)) ⟨_, rfl, Rel.gr_refl _, rfl, c.inv⟩
      · intro L a w c
        refine .inl ⟨Rel.wanted_free (by kernel_rfl) _, ?_⟩
        exact Rel.wp_bo _ _ _ _ _ rfl (u := .bool false) (c.get 1 6 (by kernel_rfl)) rfl (run_lssI HT0.out _ _ w) ⟨_, rfl, Rel.gr_refl _, rfl, c.inv⟩
      · intro L a w c
        refine .inl ⟨Rel.wanted_free (by kernel_rfl) _, ?_⟩
        exact Rel.wp_mv _ rfl ⟨_, rfl, Rel.gr_refl _, (c.get 2 7 (by kernel_rfl)), c.inv⟩
      · intro L a w c
        refine .inl ⟨Rel.wanted_by (j := 3) (b := false) (d := 8) (by kernel_rfl) (c.get 3 8 (by kernel_rfl)), ?_⟩
        exact Chn.wp_fa _ _ _ rfl (c.old 3 (v := .pointer (some ⟨W.heap.size, 0, none⟩)) (by kernel_rfl) (by kernel_rfl)) (by simp [go_sem]) ⟨_, rfl, Rel.gr_refl _, rfl, c.inv⟩
      · intro L a w c
        refine .inl ⟨Rel.wanted_by (j := 3) (b := false) (d := 8) (by kernel_rfl) (c.get 3 8 (by kernel_rfl)), ?_⟩
        exact Rel.wp_ld _ _ rfl (c.get 4 9 (by kernel_rfl)) (run_ldI (cell_keep c.inv HQ.out.1)) ⟨_, rfl, Rel.gr_refl _, rfl, c.inv⟩
      · intro L a w c
        refine .inl ⟨Rel.wanted_by (j := 3) (b := false) (d := 8) (by kernel_rfl) (c.get 3 8 (by kernel_rfl)), ?_⟩
        exact Rel.wp_bo _ _ _ _ _ rfl (u := .bool false) (c.get 5 10 (by kernel_rfl)) rfl (run_gtrI HT1.out _ _ w) ⟨_, rfl, Rel.gr_refl _, rfl, c.inv⟩
      · intro L a w c
        refine .inl ⟨Rel.wanted_free (by kernel_rfl) _, ?_⟩
        exact Rel.wp_pk _ _ _ rfl (b := false) (c.get 3 8 (by kernel_rfl)) ⟨_, rfl, Rel.gr_refl _, (c.get 6 11 (by kernel_rfl)), c.inv⟩
      · intro L a w c
        refine .inl ⟨Rel.wanted_free (by kernel_rfl) _, ?_⟩
        exact Rel.wp_mv _ rfl ⟨_, rfl, Rel.gr_refl _, (c.get 7 12 (by kernel_rfl)), c.inv⟩
      · intro L a w c
        refine .inl ⟨Rel.wanted_by (j := 8) (b := false) (d := 13) (by kernel_rfl) (c.get 8 13 (by kernel_rfl)), ?_⟩
        exact Chn.wp_fa _ _ _ rfl (c.old 3 (v := .pointer (some ⟨W.heap.size, 0, none⟩)) (by kernel_rfl) (by kernel_rfl)) (by simp [go_sem]) ⟨_, rfl, Rel.gr_refl _, rfl, c.inv⟩
      · intro L a w c
        refine .inl ⟨Rel.wanted_by (j := 8) (b := false) (d := 13) (by kernel_rfl) (c.get 8 13 (by kernel_rfl)), ?_⟩
        exact Rel.wp_ld _ _ rfl (c.get 9 14 (by kernel_rfl)) (run_ldIs (cell_keep c.inv HQ.out.2.1)) ⟨_, rfl, Rel.gr_refl _, rfl, c.inv⟩
      · intro L a w c
        refine .inl ⟨Rel.wanted_by (j := 8) (b := false) (d := 13) (by kernel_rfl) (c.get 8 13 (by kernel_rfl)), ?_⟩
        exact Rel.wp_len _ _ rfl (c.get 10 15 (by kernel_rfl)) (by simp [go_sem]) ⟨_, rfl, Rel.gr_refl _, rfl, c.inv⟩
      · intro L a w c
        refine .inl ⟨Rel.wanted_by (j := 8) (b := false) (d := 13) (by kernel_rfl) (c.get 8 13 (by kernel_rfl)), ?_⟩
        exact Chn.wp_fa _ _ _ rfl (c.old 3 (v := .pointer (some ⟨W.heap.size, 0, none⟩)) (by kernel_rfl) (by kernel_rfl)) (by simp [go_sem]) ⟨_, rfl, Rel.gr_refl _, rfl, c.inv⟩
      · intro L a w c
        refine .inl ⟨Rel.wanted_by (j := 8) (b := false) (d := 13) (by kernel_rfl) (c.get 8 13 (by kernel_rfl)), ?_⟩
        exact Rel.wp_ld _ _ rfl (c.get 12 17 (by kernel_rfl)) (run_ldI (cell_keep c.inv HQ.out.2.2)) ⟨_, rfl, Rel.gr_refl _, rfl, c.inv⟩
      · intro L a w c
        refine .inl ⟨Rel.wanted_by (j := 8) (b := false) (d := 13) (by kernel_rfl) (c.get 8 13 (by kernel_rfl)), ?_⟩
        refine Rel.wp_cl _ _ _ rfl Tryz.func61 (by kernel_rfl) ?_
        show Calls _ _ #[Rel.slot a 18] w _
        rw [show Rel.slot a 18 = .int .i64 kd from (c.get 13 18 (by kernel_rfl))]
        refine (argsOf_any kd w).mono ?_
        rintro e w' ⟨rfl, rfl⟩
        exact ⟨_, rfl, _, rfl, Rel.gr_refl _, rfl, c.inv⟩
      · intro L a w c
        refine .inl ⟨Rel.wanted_by (j := 8) (b := false) (d := 13) (by kernel_rfl) (c.get 8 13 (by kernel_rfl)), ?_⟩
        exact Rel.wp_bo _ _ _ _ _ rfl (u := .bool true) (c.get 11 16 (by kernel_rfl)) (c.get 14 19 (by kernel_rfl)) (run_neI HT2.out _ _ w) ⟨_, rfl, Rel.gr_refl _, rfl, c.inv⟩
      · intro L a w c
        refine .inl ⟨Rel.wanted_free (by kernel_rfl) _, ?_⟩
        exact Rel.wp_pk _ _ _ rfl (b := false) (c.get 8 13 (by kernel_rfl)) ⟨_, rfl, Rel.gr_refl _, (c.get 15 20 (by kernel_rfl)), c.inv⟩
    intro a w1 hbase hroom hdef hJ hV
    have s21 : Rel.slot a 21 = .bool true := hV 16 _ _ rfl rfl
    rw [Chn.act_puts [5, 6, 7, 8, 9, 10, 11, 12, 13, 14, 15, 16, 17, 18, 19, 20, 21] hbase hroom hdef (by kernel_rfl)]
    clear hbase hroom hdef hV
    simp only [List.foldl_cons, List.foldl_nil]
    generalize Rel.slot a 5 = u5 at *
    generalize Rel.slot a 6 = u6 at *
    generalize Rel.slot a 7 = u7 at *
    generalize Rel.slot a 8 = u8 at *
    generalize Rel.slot a 9 = u9 at *
    generalize Rel.slot a 10 = u10 at *
    generalize Rel.slot a 11 = u11 at *
    generalize Rel.slot a 12 = u12 at *
    generalize Rel.slot a 13 = u13 at *
    generalize Rel.slot a 14 = u14 at *
    generalize Rel.slot a 15 = u15 at *
    generalize Rel.slot a 16 = u16 at *
    generalize Rel.slot a 17 = u17 at *
    generalize Rel.slot a 18 = u18 at *
    generalize Rel.slot a 19 = u19 at *
    generalize Rel.slot a 20 = u20 at *
    rw [s21]
    clear s21
    simp only [Act.put, List.setIfInBounds_toArray, List.set_cons_succ, List.set_cons_zero]
    have HJ := Lib.hid (below_keep HT.out.2.1 hJ)
    clear hJ
    go_wp2_with fail
    go_ret
    exact ⟨rfl, HJ.out⟩
  have HT2 := Lib.hid (show ((na : Int) == many kd) = !false from beq_iff_eq.2 h2)
  have HN := Lib.hid (And.intro h0 (And.intro h1 h2))
  clear h0 h1 h2
  refine Rel.wp_region_rel (G := Rel.Gr) (Rel.tab [.is (.pointer (some ⟨W.heap.size, 1, none⟩)), .is (.int .i64 tm), .is (.bool false), .is (.bool false), .is (.pointer (some ⟨W.heap.size, 1, none⟩)), .is (.int .i64 tm), .is (.bool false), .is (.bool false), .is (.bool false), .is (.pointer (some ⟨W.heap.size, 5, none⟩)), .is (.slice aa na cp), .is (.int .i64 (na : Nat)), .is (.pointer (some ⟨W.heap.size, 2, none⟩)), .is (.int .i64 kd), .is (.int .i64 (many kd)), .is (.bool false), .is (.bool false)]) (fun _ w => Below wa.heap.size wa w) (by kernel_rfl) (by kernel_rfl) (by kernel_rfl) (by kernel_rfl) (fun w => Rel.gr_refl _) (below_drew _) ?_ ?_
  · refine ⟨?_, ?_, ?_, ?_, ?_, ?_, ?_, ?_, ?_, ?_, ?_, ?_, ?_, ?_, ?_, ?_, ?_, trivial⟩
    · intro L a w c
      refine .inl ⟨Rel.wanted_free (by kernel_rfl) _, ?_⟩
      exact Chn.wp_fa _ _ _ rfl (c.old 3 (v := .pointer (some ⟨W.heap.size, 0, none⟩)) (by kernel_rfl) (by kernel_rfl)) (by simp [go_sem]) ⟨_, rfl, Rel.gr_refl _, rfl, c.inv⟩
    · intro L a w c
      refine .inl ⟨Rel.wanted_free (by kernel_rfl) _, ?_⟩
      exact Rel.wp_ld _ _ rfl (c.get 0 5 (by kernel_rfl)) (run_ldI (cell_keep c.inv HQ.out.1)) ⟨_, rfl, Rel.gr_refl _, rfl, c.inv⟩
    · intro L a w c
      refine .inl ⟨Rel.wanted_free (by kernel_rfl) _, ?_⟩
      exact Rel.wp_bo _ _ _ _ _ rfl (u := .bool false) (c.get 1 6 (by kernel_rfl)) rfl (run_lssI HT0.out _ _ w) ⟨_, rfl, Rel.gr_refl _, rfl, c.inv⟩
    · intro L a w c
      refine .inl ⟨Rel.wanted_free (by kernel_rfl) _, ?_⟩
      exact Rel.wp_mv _ rfl ⟨_, rfl, Rel.gr_refl _, (c.get 2 7 (by kernel_rfl)), c.inv⟩
    · intro L a w c
      refine .inl ⟨Rel.wanted_by (j := 3) (b := false) (d := 8) (by kernel_rfl) (c.get 3 8 (by kernel_rfl)), ?_⟩
      exact Chn.wp_fa _ _ _ rfl (c.old 3 (v := .pointer (some ⟨W.heap.size, 0, none⟩)) (by kernel_rfl) (by kernel_rfl)) (by simp [go_sem]) ⟨_, rfl, Rel.gr_refl _, rfl, c.inv⟩
    · intro L a w c
      refine .inl ⟨Rel.wanted_by (j := 3) (b := false) (d := 8) (by kernel_rfl) (c.get 3 8 (by kernel_rfl)), ?_⟩
      exact Rel.wp_ld _ _ rfl (c.get 4 9 (by kernel_rfl)) (run_ldI (cell_keep c.inv HQ.out.1)) ⟨_, rfl, Rel.gr_refl _, rfl, c.inv⟩
    · intro L a w c
      refine .inl ⟨Rel.wanted_by (j := 3) (b := false) (d := 8) (by kernel_rfl) (c.get 3 8 (by kernel_rfl)), ?_⟩
      exact Rel.wp_bo _ _ _ _ _ rfl (u := .bool false) (c.get 5 10 (by kernel_rfl)) rfl (run_gtrI HT1.out _ _ w) ⟨_, rfl, Rel.gr_refl _, rfl, c.inv⟩
    · intro L a w c
      refine .inl ⟨Rel.wanted_free (by kernel_rfl) _, ?_⟩
      exact Rel.wp_pk _ _ _ rfl (b := false) (c.get 3 8 (by kernel_rfl)) ⟨_, rfl, Rel.gr_refl _, (c.get 6 11 (by kernel_rfl)), c.inv⟩
    · intro L a w c
      refine .inl ⟨Rel.wanted_free (by kernel_rfl) _, ?_⟩
      exact Rel.wp_mv _ rfl ⟨_, rfl, Rel.gr_refl _, (c.get 7 12 (by kernel_rfl)), c.inv⟩
    · intro L a w c
      refine .inl ⟨Rel.wanted_by (j := 8) (b := false) (d := 13) (by kernel_rfl) (c.get 8 13 (by kernel_rfl)), ?_⟩
      exact Chn.wp_fa _ _ _ rfl (c.old 3 (v := .pointer (some ⟨W.heap.size, 0, none⟩)) (by kernel_rfl) (by kernel_rfl)) (by simp [go_sem]) ⟨_, rfl, Rel.gr_refl _, rfl, c.inv⟩
    · intro L a w c
      refine .inl ⟨Rel.wanted_by (j := 8) (b := false) (d := 13) (by kernel_rfl) (c.get 8 13 (by kernel_rfl)), ?_⟩
      exact Rel.wp_ld _ _ rfl (c.get 9 14 (by kernel_rfl)) (run_ldIs (cell_keep c.inv HQ.out.2.1)) ⟨_, rfl, Rel.gr_refl _, rfl, c.inv⟩
    · intro L a w c
      refine .inl ⟨Rel.wanted_by (j := 8) (b := false) (d := 13) (by kernel_rfl) (c.get 8 13 (by kernel_rfl)), ?_⟩
      exact Rel.wp_len _ _ rfl (c.get 10 15 (by kernel_rfl)) (by simp [go_sem]) ⟨_, rfl, Rel.gr_refl _, rfl, c.inv⟩
    · intro L a w c
      refine .inl ⟨Rel.wanted_by (j := 8) (b := false) (d := 13) (by kernel_rfl) (c.get 8 13 (by kernel_rfl)), ?_⟩
      exact Chn.wp_fa _ _ _ rfl (c.old 3 (v := .pointer (some ⟨W.heap.size, 0, none⟩)) (by kernel_rfl) (by kernel_rfl)) (by simp [go_sem]) ⟨_, rfl, Rel.gr_refl _, rfl, c.inv⟩
    · intro L a w c
      refine .inl ⟨Rel.wanted_by (j := 8) (b := false) (d := 13) (by kernel_rfl) (c.get 8 13 (by kernel_rfl)), ?_⟩
      exact Rel.wp_ld _ _ rfl (c.get 12 17 (by kernel_rfl)) (run_ldI (cell_keep c.inv HQ.out.2.2)) ⟨_, rfl, Rel.gr_refl _, rfl, c.inv⟩
    · intro L a w c
      refine .inl ⟨Rel.wanted_by (j := 8) (b := false) (d := 13) (by kernel_rfl) (c.get 8 13 (by kernel_rfl)), ?_⟩
      refine Rel.wp_cl _ _ _ rfl Tryz.func61 (by kernel_rfl) ?_
      show Calls _ _ #[Rel.slot a 18] w _
      rw [show Rel.slot a 18 = .int .i64 kd from (c.get 13 18 (by kernel_rfl))]
      refine (argsOf_any kd w).mono ?_
      rintro e w' ⟨rfl, rfl⟩
      exact ⟨_, rfl, _, rfl, Rel.gr_refl _, rfl, c.inv⟩
    · intro L a w c
      refine .inl ⟨Rel.wanted_by (j := 8) (b := false) (d := 13) (by kernel_rfl) (c.get 8 13 (by kernel_rfl)), ?_⟩
      exact Rel.wp_bo _ _ _ _ _ rfl (u := .bool false) (c.get 11 16 (by kernel_rfl)) (c.get 14 19 (by kernel_rfl)) (run_neI HT2.out _ _ w) ⟨_, rfl, Rel.gr_refl _, rfl, c.inv⟩
    · intro L a w c
      refine .inl ⟨Rel.wanted_free (by kernel_rfl) _, ?_⟩
      exact Rel.wp_pk _ _ _ rfl (b := false) (c.get 8 13 (by kernel_rfl)) ⟨_, rfl, Rel.gr_refl _, (c.get 15 20 (by kernel_rfl)), c.inv⟩
  intro a w1 hbase hroom hdef hJ hV
  have s21 : Rel.slot a 21 = .bool false := hV 16 _ _ rfl rfl
  rw [Chn.act_puts [5, 6, 7, 8, 9, 10, 11, 12, 13, 14, 15, 16, 17, 18, 19, 20, 21] hbase hroom hdef (by kernel_rfl)]
  clear hbase hroom hdef hV
  simp only [List.foldl_cons, List.foldl_nil]
  generalize Rel.slot a 5 = u5 at *
  generalize Rel.slot a 6 = u6 at *
  generalize Rel.slot a 7 = u7 at *
  generalize Rel.slot a 8 = u8 at *
  generalize Rel.slot a 9 = u9 at *
  generalize Rel.slot a 10 = u10 at *
  generalize Rel.slot a 11 = u11 at *
  generalize Rel.slot a 12 = u12 at *
  generalize Rel.slot a 13 = u13 at *
  generalize Rel.slot a 14 = u14 at *
  generalize Rel.slot a 15 = u15 at *
  generalize Rel.slot a 16 = u16 at *
  generalize Rel.slot a 17 = u17 at *
  generalize Rel.slot a 18 = u18 at *
  generalize Rel.slot a 19 = u19 at *
  generalize Rel.slot a 20 = u20 at *
  rw [s21]
  clear s21
  simp only [Act.put, List.setIfInBounds_toArray, List.set_cons_succ, List.set_cons_zero]
  have HJ := Lib.hid (And.intro (below_keep HT.out.2.1 hJ) (And.intro (Arr.blk_below HT.out.1 hJ (Arr.blk_lt HT.out.1)) (lst_keep encK_len HT.out.2.2 hJ)))
  clear hJ
  have k3 : w1.cell? ⟨W.heap.size, 3, none⟩ = some (.string ky) := Arr.blk_cell HJ.out.2.1 3
  have k4 : w1.cell? ⟨W.heap.size, 4, none⟩ = some (.string nm) := Arr.blk_cell HJ.out.2.1 4
  have k2 : w1.cell? ⟨W.heap.size, 2, none⟩ = some (.int .i64 kd) := Arr.blk_cell HJ.out.2.1 2
  by_cases h4 : 16 < ky.size
  · have h4i : (16 : Int) < (ky.size : Int) := by omega
    have hE1 : E = 1 := HE1.out (.inr (.inr (.inr (.inl h4))))
    subst hE1
    go_wp2_with fail
    go_ret
    exact ⟨rfl, HJ.out.1⟩
  have h4i : ¬ (16 : Int) < (ky.size : Int) := by omega
  by_cases h5 : 16 < nm.size
  · have h5i : (16 : Int) < (nm.size : Int) := by omega
    have hE1 : E = 1 := HE1.out (.inr (.inr (.inr (.inr (.inl h5)))))
    subst hE1
    go_wp2_with fail
    go_ret
    exact ⟨rfl, HJ.out.1⟩
  have h5i : ¬ (16 : Int) < (nm.size : Int) := by omega
  have HL := Lib.hid (And.intro h4 h5)
  have HHs := Lib.hid (has_any w1 ka kn kc keys HJ.out.2.2 ky)
  clear h4 h5
  go_upto_region 5 with fail
  clear h4i h5i
  by_cases hke : ky.size = 0
  · have he : ky.toList.isEmpty = true := by rw [emp_iff]; exact decide_eq_true hke
    by_cases hne : nm.size = 0
    · have hn : nm.toList.isEmpty = true := by rw [emp_iff]; exact decide_eq_true hne
      have hE0 : E = 0 := by rw [HE0.out (by have := HN.out; have := HL.out; omega), if_neg (fun h => h.1 hke)]
      subst hE0
      clear hke hne
      go_wp2_with fail
      go_ret
      exact ⟨rfl, HJ.out.1⟩
    · have hn : nm.toList.isEmpty = false := by rw [emp_iff]; exact decide_eq_false hne
      by_cases hk1 : kd = 1
      · have hE0 : E = 0 := by rw [HE0.out (by have := HN.out; have := HL.out; omega), if_neg (fun h => h.1 hke)]
        have hkb : (kd == 1) = true := beq_iff_eq.2 hk1
        subst hE0
        clear hke hne hk1
        go_wp2_with fail
        go_ret
        exact ⟨rfl, HJ.out.1⟩
      · have hE1 : E = 1 := HE1.out (by omega)
        have hkb : (kd == 1) = false := beq_false_of_ne hk1
        subst hE1
        clear hke hne hk1
        go_wp2_with fail
        go_ret
        exact ⟨rfl, HJ.out.1⟩
  · have he : ky.toList.isEmpty = false := by rw [emp_iff]; exact decide_eq_false hke
    by_cases hmk : kd ≤ 7 ∨ kd = 13
    rotate_left
    · have hE1 : E = 1 := HE1.out (by omega)
      have HMk := Lib.hid (mayKey_any kd w1 false ⟨(fun h => by cases h), fun h => absurd h hmk⟩)
      subst hE1
      clear hke hmk
      go_wp2_with fail
      refine HMk.out.mono ?_
      rintro e w2 ⟨rfl, h2⟩
      subst h2
      go_wp2_with fail
      go_ret
      exact ⟨rfl, HJ.out.1⟩
    have HMk := Lib.hid (mayKey_any kd w1 true ⟨fun _ => hmk, fun _ => rfl⟩)
    by_cases hne : nm.size = 0 ∨ kd = 1
    · have HE2 := Lib.hid (show E = if hasK keys ky = true then 6 else 0 by
        rw [HE0.out (by have := HN.out; have := HL.out; omega)]
        by_cases hh : hasK keys ky = true
        · rw [if_pos ⟨hke, hh⟩, if_pos hh]
        · rw [if_neg (fun h => hh h.2), if_neg hh])
      have hn : nm.toList.isEmpty = true ∨ (nm.toList.isEmpty = false ∧ (kd == 1) = true) := by
        rw [emp_iff]
        by_cases h : nm.size = 0
        · exact .inl (decide_eq_true h)
        · exact .inr ⟨decide_eq_false h, beq_iff_eq.2 (by omega)⟩
      clear hke hmk hne
      rcases hn with hn | ⟨hn, hkb⟩
      · go_wp2_with fail
        refine HMk.out.mono ?_
        rintro e w2 ⟨rfl, h2⟩
        subst h2
        go_wp2_with fail
        refine HHs.out.mono ?_
        rintro e w2 ⟨rfl, h2⟩
        subst h2
        cases hh : hasK keys ky with
        | true =>
          have hE6 : E = 6 := by rw [HE2.out, if_pos hh]
          subst hE6
          clear hh
          go_wp2_with fail
          go_ret
          exact ⟨rfl, HJ.out.1⟩
        | false =>
          have hE6 : E = 0 := by rw [HE2.out, if_neg (by rw [hh]; exact Bool.false_ne_true)]
          subst hE6
          clear hh
          go_wp2_with fail
          go_ret
          exact ⟨rfl, HJ.out.1⟩
      · go_wp2_with fail
        refine HMk.out.mono ?_
        rintro e w2 ⟨rfl, h2⟩
        subst h2
        go_wp2_with fail
        refine HHs.out.mono ?_
        rintro e w2 ⟨rfl, h2⟩
        subst h2
        cases hh : hasK keys ky with
        | true =>
          have hE6 : E = 6 := by rw [HE2.out, if_pos hh]
          subst hE6
          clear hh
          go_wp2_with fail
          go_ret
          exact ⟨rfl, HJ.out.1⟩
        | false =>
          have hE6 : E = 0 := by rw [HE2.out, if_neg (by rw [hh]; exact Bool.false_ne_true)]
          subst hE6
          clear hh
          go_wp2_with fail
          go_ret
          exact ⟨rfl, HJ.out.1⟩
    · have hE1 : E = 1 := HE1.out (by omega)
      have hn : nm.toList.isEmpty = false := by rw [emp_iff]; exact decide_eq_false (by omega)
      have hkb : (kd == 1) = false := beq_false_of_ne (by omega)
      subst hE1
      clear hke hmk hne
      go_wp2_with fail
      refine HMk.out.mono ?_
      rintro e w2 ⟨rfl, h2⟩
      subst h2
      go_wp2_with fail
      go_ret
      exact ⟨rfl, HJ.out.1⟩
end Go.Proofs.YtjcndgopijpibaaGreat.Bok
/- Book, the landed: a key more, of which the last ones stay. -/
namespace Go.Proofs.YtjcndgopijpibaaGreat.Bok
set_option maxRecDepth 100000
open Go.RowKit
open Go.Sort
open Kit
open Foot
open Tre (Lst inI lst_keep lst_at lst_new lst_none encF encF_len encL_len IntsL goodB)
open Led (Lg encG encG_len)
open Snp (Sn Sv encK encK_len encK_one)
set_option linter.unusedVariables false
variable {w w' W0 W : World} {B : Nat}
theorem newL_drop {base g n cap : Nat} {l : List ByteArray} (h : Owns encK 1 9 w base (.slice (some ⟨g, 0, none⟩) n cap) l) (hn : 1 < n) : NewL encK 1 9 w base (some ⟨g, 1, none⟩) (n - 1) (cap - 1) (l.drop 1) := by
  have hl := own_lst encK_len h
  obtain ⟨g1, g2⟩ := World.ownsRow.lt h g rfl
  obtain ⟨cur, hcur⟩ := own_type h (g := g) rfl
  refine ⟨⟨by rw [List.length_drop, hl.len], by have := hl.cap; omega, by have := hl.max; omega, (fun e => by cases e), ?_⟩, fun q hq => ?_⟩
  · have := row_drop hl.row 1
    simpa using this
  · injection hq with hq
    subst hq
    exact ⟨g1, g2, cur, hcur⟩
set_option maxHeartbeats 8000000 in
theorem withKey_any (W : World) (base : Nat) (ka : Option Addr) (kn kc : Nat) (keys : List ByteArray) (ky : ByteArray) (hO : Owns encK 1 9 W base (.slice ka kn kc) keys) (hb : base ≤ W.heap.size) (hn : kn ≤ 8) :
    Calls Tryz.prog 38 #[.slice ka kn kc, .string ky] W fun e w' => ∃ a n c, e = .returned (.slice a n c) ∧ NewL encK 1 9 w' base a n c (keysK keys ky) ∧ Chg (fun k => some k = (Value.slice ka kn kc).ownBlock) W w' := by
  have hlen := (own_lst encK_len hO).len
  by_cases hke : ky.size = 0
  · have he : ky.toList.isEmpty = true := by rw [emp_iff]; exact decide_eq_true hke
    have HR := Lib.hid (show NewL encK 1 9 W base ka kn kc (keysK keys ky) by
      unfold keysK
      rw [if_pos hke]
      exact newL_own encK_len hO)
    clear hlen hO hn hke
    go_enter Tryz.func38, Tryz.ntmps38
    go_wp2_with fail
    go_ret
    exact ⟨ka, kn, kc, rfl, HR.out, chg_refl _ _⟩
  · have he : ky.toList.isEmpty = false := by rw [emp_iff]; exact decide_eq_false hke
    have HKe := Lib.hid (show keysK keys ky = (keys ++ [ky]).drop (kn + 1 - 8) by unfold keysK; rw [if_neg hke, hlen])
    have HO := Lib.hid (And.intro hO (And.intro hb (And.intro hlen hn)))
    clear hlen hO hb hke
    go_enter Tryz.func38, Tryz.ntmps38
    go_upto_region 4 with (first | (at_builtin; refine one_chg tyK2 rfl (.tmp 8) (.tmp 10) rfl W #[.string ky] rfl ky rfl base (.slice ka kn kc) keys rfl HO.out.1 rfl (by have := HO.out.2.2.1; have := HO.out.2.2.2; omega) (by omega) HO.out.2.1 ?_; intro v9 w9 ho9 hc9; have HO9 := Lib.hid (And.intro ho9 hc9); clear ho9 hc9) | fail)
    obtain ⟨a9, c9, rfl, hc9, hm9, hn9, -⟩ := owns_row encK_len HO9.out.1
    obtain ⟨n9, hn9e⟩ : ∃ q, q = (keys ++ [ky]).length := ⟨_, rfl⟩
    have hn9k : n9 = kn + 1 := by rw [hn9e, List.length_append, HO.out.2.2.1]; rfl
    rw [← hn9e] at HO9 hc9 ⊢
    obtain ⟨g, cap, hv, hg, hcap, hmx⟩ := owns_at encK_len HO9.out.1 (by rw [List.length_append]; simp)
    injection hv with ev1 ev2 ev3
    subst ev1 ev3
    have HNk := Lib.hid hn9k
    clear hn9 hn9e ev2 hg hcap hmx hn9k
    by_cases h8 : n9 ≤ 8
    · have h8i : (n9 : Int) - 8 ≤ 0 := by omega
      have h8j : ¬ (0 : Int) < (n9 : Int) - 8 := by omega
      go_wp2_with fail
      go_ret
      refine ⟨some ⟨g, 0, none⟩, n9, _, rfl, ?_, HO9.out.2⟩
      rw [HKe.out, show kn + 1 - 8 = 0 by have := HNk.out; omega, List.drop_zero]
      exact newL_own encK_len HO9.out.1
    · obtain rfl : n9 = 9 := by have := HNk.out; have := HO.out.2.2.2; omega
      have hcne : ¬ c9 = 1 := by omega
      have h9c : (9 : Int) ≤ (c9 : Int) := by omega
      go_wp2_with fail
      go_ret
      refine ⟨some ⟨g, 1, none⟩, 8, _, rfl, ?_, HO9.out.2⟩
      rw [HKe.out, show kn + 1 - 8 = 1 by have := HNk.out; omega]
      exact newL_drop HO9.out.1 (by omega)
end Go.Proofs.YtjcndgopijpibaaGreat.Bok
/- Tree: two amounts put behind a list of the call's own in one statement: what the first append leaves, in whatever order. -/
namespace Go.Proofs.YtjcndgopijpibaaGreat.Tre
set_option maxRecDepth 100000
open Go.RowKit
open Go.Sort
open Kit
set_option linter.unusedVariables false
variable {w w' : World}
end Go.Proofs.YtjcndgopijpibaaGreat.Tre
/- Tree: the document's Below, as it runs. -/
namespace Go.Proofs.YtjcndgopijpibaaGreat.Tre
set_option maxRecDepth 100000
open Go.RowKit
open Go.Sort
open Kit
open Mon
set_option linter.unusedVariables false
variable {w w' : World}
end Go.Proofs.YtjcndgopijpibaaGreat.Tre
/- Tree: the document's Use, as it runs . -/
namespace Go.Proofs.YtjcndgopijpibaaGreat.Tre
set_option maxRecDepth 100000
open Go.RowKit
open Go.Sort
open Kit
open Mon
set_option linter.unusedVariables false
variable {w w' : World}
theorem amounts_length (l : List Fd) (f : Int) : ∀ al : List Al, (amounts l al f).length ≤ 2 * al.length
  | [] => Nat.zero_le _
  | a :: al => by
    have ih := amounts_length l f al
    unfold amounts at ih ⊢
    rw [List.flatMap_cons, List.length_append, List.length_cons]
    have h : (if (path l a.fund).contains f then [a.lien, a.spent] else []).length ≤ 2 := by split <;> simp
    omega
end Go.Proofs.YtjcndgopijpibaaGreat.Tre
/- Tree: the document's Over, as it runs, over any contract of its Use. -/
namespace Go.Proofs.YtjcndgopijpibaaGreat.Tre
set_option maxRecDepth 100000
open Go.RowKit
open Go.Sort
open Kit
open Mon
set_option linter.unusedVariables false
variable {w w' : World}
theorem overFrom_step {l : List Fd} {al : List Al} {k : Nat} {x : Fd} (h : l[k]? = some x) : overFrom l al (l.length - k) k = if overAt l al k x then (k : Int) else overFrom l al (l.length - (k + 1)) (k + 1) := by
  have hk := (List.getElem?_eq_some_iff.1 h).1
  obtain ⟨m, hm⟩ : ∃ m, l.length - k = m + 1 := ⟨l.length - k - 1, by omega⟩
  have hm2 : l.length - (k + 1) = m := by omega
  rw [hm, hm2, overFrom, h]
theorem overFrom_end {l : List Fd} {al : List Al} {k : Nat} (h : l.length ≤ k) : overFrom l al (l.length - k) k = -1 := by
  rw [Nat.sub_eq_zero_of_le h, overFrom]
end Go.Proofs.YtjcndgopijpibaaGreat.Tre
