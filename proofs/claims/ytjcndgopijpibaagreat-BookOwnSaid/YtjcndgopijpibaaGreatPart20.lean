/- Common to the claims of this seat, part 20: texts that were written one by one, laid behind one another. -/
import Derived.Test.YtjcndgopijpibaaGreatPart7
import Derived.Test.YtjcndgopijpibaaGreatPart11
import Derived.Test.YtjcndgopijpibaaGreatPart19
/- Job, the landed: may a job be? Its numbers, its nodes. -/
namespace Go.Proofs.YtjcndgopijpibaaGreat.Job
set_option maxRecDepth 100000
open Go.RowKit
open Go.Sort
open Kit
open Tre (Lst inI lst_keep lst_take lst_at lst_new lst_none run_ld2)
set_option linter.unusedVariables false
variable {w w' : World}
def wi (n lo hi : Int) : Bool := decide (lo ≤ n) && decide (n ≤ hi)
theorem within_any (n lo hi : Int) (W : World) : Calls Tryz.prog 142 #[.int .i64 n, .int .i64 lo, .int .i64 hi] W fun e w' => e = .returned (.bool (wi n lo hi)) ∧ W = w' := by
  by_cases h1 : lo ≤ n
  · by_cases h2 : n ≤ hi
    · have HB := Lib.hid (show wi n lo hi = true by unfold wi; rw [decide_eq_true h1, decide_eq_true h2]; rfl)
      go_enter Tryz.func142, Tryz.ntmps142
      go_wp2_with fail
      go_ret
      exact ⟨by rw [HB.out]; rfl, rfl⟩
    · have HB := Lib.hid (show wi n lo hi = false by unfold wi; rw [decide_eq_false h2, Bool.and_false])
      go_enter Tryz.func142, Tryz.ntmps142
      go_wp2_with fail
      go_ret
      exact ⟨by rw [HB.out]; rfl, rfl⟩
  · have HB := Lib.hid (show wi n lo hi = false by unfold wi; rw [decide_eq_false h1, Bool.false_and])
    go_enter Tryz.func142, Tryz.ntmps142
    go_wp2_with fail
    go_ret
    exact ⟨by rw [HB.out]; rfl, rfl⟩
def wantsB (j : Jb) : Bool := decide (1 ≤ j.id) && wi j.fund 0 7 && wi j.nodes 1 32 && wi j.wall 1 1048576 && wi j.qos 0 7 && wi j.prio 0 1048576 && wi j.price 0 1099511627776
set_option maxHeartbeats 8000000 in
theorem wants_any (x : Jv) (W : World) : Calls Tryz.prog 121 #[.agg (encJ x).toArray] W fun e w' => e = .returned (.bool (wantsB x.t)) ∧ Below W.heap.size W w' := by
  obtain ⟨⟨x0, x1, x2, x3, x4, x5, x6, x7, x8, x9, x10, xd⟩, xa, xn, xc⟩ := x
  have HB := Lib.hid (below_alloc W (.cells #[.int .i64 x0, .int .i64 x1, .int .i64 x2, .int .i64 x3, .int .i64 x4, .int .i64 x5, .int .i64 x6, .int .i64 x7, .int .i64 x8, .int .i64 x9, .int .i64 x10, .slice xa xn xc] 58))
  have hE : wantsB (⟨x0, x1, x2, x3, x4, x5, x6, x7, x8, x9, x10, xd⟩ : Jb) = (decide (1 ≤ x0) && wi x1 0 7 && wi x2 1 32 && wi x3 1 1048576 && wi x4 0 7 && wi x5 0 1048576 && wi x6 0 1099511627776) := rfl
  unfold encJ
  by_cases h1 : 1 ≤ x0
  · have d1 : decide (1 ≤ x0) = true := decide_eq_true h1
    rw [d1] at hE
    rcases Bool.eq_false_or_eq_true (wi x1 0 7) with h2 | h2
    rotate_left
    · rw [h2] at hE
      have H2 := Lib.hid h2
      have HE := Lib.hid (show wantsB (⟨x0, x1, x2, x3, x4, x5, x6, x7, x8, x9, x10, xd⟩ : Jb) = false by rw [hE]; simp)
      clear h2 d1
      clear hE
      go_enter Tryz.func121, Tryz.ntmps121
      go_wp2_with fail
      refine (within_any _ _ _ _).mono ?_
      rintro e w1 ⟨rfl, rfl⟩
      rw [H2.out]
      go_wp2_with fail
      go_ret
      exact ⟨by rw [HE.out]; rfl, HB.out⟩
    rw [h2] at hE
    have H2 := Lib.hid h2
    clear h2
    rcases Bool.eq_false_or_eq_true (wi x2 1 32) with h3 | h3
    rotate_left
    · rw [h3] at hE
      have H3 := Lib.hid h3
      have HE := Lib.hid (show wantsB (⟨x0, x1, x2, x3, x4, x5, x6, x7, x8, x9, x10, xd⟩ : Jb) = false by rw [hE]; simp)
      clear h3 d1
      clear hE
      go_enter Tryz.func121, Tryz.ntmps121
      go_wp2_with fail
      refine (within_any _ _ _ _).mono ?_
      rintro e w1 ⟨rfl, rfl⟩
      rw [H2.out]
      go_wp2_with fail
      refine (within_any _ _ _ _).mono ?_
      rintro e w1 ⟨rfl, rfl⟩
      rw [H3.out]
      go_wp2_with fail
      go_ret
      exact ⟨by rw [HE.out]; rfl, HB.out⟩
    rw [h3] at hE
    have H3 := Lib.hid h3
    clear h3
    rcases Bool.eq_false_or_eq_true (wi x3 1 1048576) with h4 | h4
    rotate_left
    · rw [h4] at hE
      have H4 := Lib.hid h4
      have HE := Lib.hid (show wantsB (⟨x0, x1, x2, x3, x4, x5, x6, x7, x8, x9, x10, xd⟩ : Jb) = false by rw [hE]; simp)
      clear h4 d1
      clear hE
      go_enter Tryz.func121, Tryz.ntmps121
      go_wp2_with fail
      refine (within_any _ _ _ _).mono ?_
      rintro e w1 ⟨rfl, rfl⟩
      rw [H2.out]
      go_wp2_with fail
      refine (within_any _ _ _ _).mono ?_
      rintro e w1 ⟨rfl, rfl⟩
      rw [H3.out]
      go_wp2_with fail
      refine (within_any _ _ _ _).mono ?_
      rintro e w1 ⟨rfl, rfl⟩
      rw [H4.out]
      go_wp2_with fail
      go_ret
      exact ⟨by rw [HE.out]; rfl, HB.out⟩
    rw [h4] at hE
    have H4 := Lib.hid h4
    clear h4
    rcases Bool.eq_false_or_eq_true (wi x4 0 7) with h5 | h5
    rotate_left
    · rw [h5] at hE
      have H5 := Lib.hid h5
      have HE := Lib.hid (show wantsB (⟨x0, x1, x2, x3, x4, x5, x6, x7, x8, x9, x10, xd⟩ : Jb) = false by rw [hE]; simp)
      clear h5 d1
      clear hE
      go_enter Tryz.func121, Tryz.ntmps121
      go_wp2_with fail
      refine (within_any _ _ _ _).mono ?_
      rintro e w1 ⟨rfl, rfl⟩
      rw [H2.out]
      go_wp2_with fail
      refine (within_any _ _ _ _).mono ?_
      rintro e w1 ⟨rfl, rfl⟩
      rw [H3.out]
      go_wp2_with fail
      refine (within_any _ _ _ _).mono ?_
      rintro e w1 ⟨rfl, rfl⟩
      rw [H4.out]
      go_wp2_with fail
      refine (within_any _ _ _ _).mono ?_
      rintro e w1 ⟨rfl, rfl⟩
      rw [H5.out]
      go_wp2_with fail
      go_ret
      exact ⟨by rw [HE.out]; rfl, HB.out⟩
    rw [h5] at hE
    have H5 := Lib.hid h5
    clear h5
    rcases Bool.eq_false_or_eq_true (wi x5 0 1048576) with h6 | h6
    rotate_left
    · rw [h6] at hE
      have H6 := Lib.hid h6
      have HE := Lib.hid (show wantsB (⟨x0, x1, x2, x3, x4, x5, x6, x7, x8, x9, x10, xd⟩ : Jb) = false by rw [hE]; simp)
      clear h6 d1
      clear hE
      go_enter Tryz.func121, Tryz.ntmps121
      go_wp2_with fail
      refine (within_any _ _ _ _).mono ?_
      rintro e w1 ⟨rfl, rfl⟩
      rw [H2.out]
      go_wp2_with fail
      refine (within_any _ _ _ _).mono ?_
      rintro e w1 ⟨rfl, rfl⟩
      rw [H3.out]
      go_wp2_with fail
      refine (within_any _ _ _ _).mono ?_
      rintro e w1 ⟨rfl, rfl⟩
      rw [H4.out]
      go_wp2_with fail
      refine (within_any _ _ _ _).mono ?_
      rintro e w1 ⟨rfl, rfl⟩
      rw [H5.out]
      go_wp2_with fail
      refine (within_any _ _ _ _).mono ?_
      rintro e w1 ⟨rfl, rfl⟩
      rw [H6.out]
      go_wp2_with fail
      go_ret
      exact ⟨by rw [HE.out]; rfl, HB.out⟩
    rw [h6] at hE
    have H6 := Lib.hid h6
    clear h6
    rcases Bool.eq_false_or_eq_true (wi x6 0 1099511627776) with h7 | h7
    rotate_left
    · rw [h7] at hE
      have H7 := Lib.hid h7
      have HE := Lib.hid (show wantsB (⟨x0, x1, x2, x3, x4, x5, x6, x7, x8, x9, x10, xd⟩ : Jb) = false by rw [hE]; simp)
      clear h7 d1
      clear hE
      go_enter Tryz.func121, Tryz.ntmps121
      go_wp2_with fail
      refine (within_any _ _ _ _).mono ?_
      rintro e w1 ⟨rfl, rfl⟩
      rw [H2.out]
      go_wp2_with fail
      refine (within_any _ _ _ _).mono ?_
      rintro e w1 ⟨rfl, rfl⟩
      rw [H3.out]
      go_wp2_with fail
      refine (within_any _ _ _ _).mono ?_
      rintro e w1 ⟨rfl, rfl⟩
      rw [H4.out]
      go_wp2_with fail
      refine (within_any _ _ _ _).mono ?_
      rintro e w1 ⟨rfl, rfl⟩
      rw [H5.out]
      go_wp2_with fail
      refine (within_any _ _ _ _).mono ?_
      rintro e w1 ⟨rfl, rfl⟩
      rw [H6.out]
      go_wp2_with fail
      refine (within_any _ _ _ _).mono ?_
      rintro e w1 ⟨rfl, rfl⟩
      rw [H7.out]
      go_wp2_with fail
      go_ret
      exact ⟨by rw [HE.out]; rfl, HB.out⟩
    rw [h7] at hE
    have H7 := Lib.hid h7
    clear h7
    have HE := Lib.hid (show wantsB (⟨x0, x1, x2, x3, x4, x5, x6, x7, x8, x9, x10, xd⟩ : Jb) = true by rw [hE]; rfl)
    clear d1
    clear hE
    go_enter Tryz.func121, Tryz.ntmps121
    go_wp2_with fail
    refine (within_any _ _ _ _).mono ?_
    rintro e w1 ⟨rfl, rfl⟩
    rw [H2.out]
    go_wp2_with fail
    refine (within_any _ _ _ _).mono ?_
    rintro e w1 ⟨rfl, rfl⟩
    rw [H3.out]
    go_wp2_with fail
    refine (within_any _ _ _ _).mono ?_
    rintro e w1 ⟨rfl, rfl⟩
    rw [H4.out]
    go_wp2_with fail
    refine (within_any _ _ _ _).mono ?_
    rintro e w1 ⟨rfl, rfl⟩
    rw [H5.out]
    go_wp2_with fail
    refine (within_any _ _ _ _).mono ?_
    rintro e w1 ⟨rfl, rfl⟩
    rw [H6.out]
    go_wp2_with fail
    refine (within_any _ _ _ _).mono ?_
    rintro e w1 ⟨rfl, rfl⟩
    rw [H7.out]
    go_wp2_with fail
    go_ret
    exact ⟨by rw [HE.out]; rfl, HB.out⟩
  · have HE := Lib.hid (show wantsB (⟨x0, x1, x2, x3, x4, x5, x6, x7, x8, x9, x10, xd⟩ : Jb) = false by rw [hE, decide_eq_false h1]; rfl)
    clear hE
    go_enter Tryz.func121, Tryz.ntmps121
    go_wp2_with fail
    go_ret
    exact ⟨by rw [HE.out]; rfl, HB.out⟩
theorem and_all (x : Int) : bits BinOp.and IntKind.i64 x 4294967295 = x % 4294967296 := by
  show IntKind.i64.wrap ((BitVec.ofInt 64 x &&& BitVec.ofInt 64 4294967295).toNat : Int) = _
  rw [BitVec.toNat_and, BitVec.toNat_ofInt, show (BitVec.ofInt 64 4294967295).toNat = 2 ^ 32 - 1 from rfl, Nat.and_two_pow_sub_one_eq_mod]
  have h : ((((x % ((2 ^ 64 : Nat) : Int)).toNat % 2 ^ 32 : Nat)) : Int) = x % 4294967296 := by omega
  rw [h, IntKind.wrap_i64]
  omega
theorem all32 (W : World) : Calls Tryz.prog 106 #[.int .i64 32] W fun e w' => e = .returned (.int .i64 4294967295) ∧ W = w' := by
  refine (Poo.all_any W 32 (by unfold inI; omega)).mono ?_
  rintro e w' ⟨rfl, rfl⟩
  exact ⟨rfl, rfl⟩
def ofN (m : Int) : Bool := decide (0 ≤ m ∧ m < 4294967296)
theorem ofN_eq (m : Int) : (bits BinOp.and IntKind.i64 m 4294967295 == m) = ofN m := by
  rw [and_all]
  unfold ofN
  rw [Bool.eq_iff_iff, beq_iff_eq, decide_eq_true_iff]
  omega
def nodesB (j : Jb) : Bool := ofN j.mask && (((Poo.cnt (Poo.lo j.mask) : Nat) : Int) == j.nodes)
set_option maxHeartbeats 4000000 in
theorem nodes_any (x : Jv) (W : World) : Calls Tryz.prog 143 #[.agg (encJ x).toArray] W fun e w' => e = .returned (.bool (nodesB x.t)) ∧ Below W.heap.size W w' := by
  obtain ⟨w9, hw9⟩ : ∃ z, z = W.alloc (.cells (encJ x).toArray 58) := ⟨_, rfl⟩
  obtain ⟨B1, hB1⟩ : ∃ z, z = W.heap.size := ⟨_, rfl⟩
  have hk : Arr.Blk w9 B1 58 (encJ x) := by rw [hw9, hB1]; exact blk_boxJ W x
  obtain ⟨xm, hxm⟩ : ∃ z, z = x.t.mask := ⟨_, rfl⟩
  obtain ⟨xn, hxn⟩ : ∃ z, z = x.t.nodes := ⟨_, rfl⟩
  have HC := Lib.hid (show w9.cell? ⟨B1, 9, none⟩ = some (.int .i64 xm) ∧ w9.cell? ⟨B1, 2, none⟩ = some (.int .i64 xn) by rw [hxm, hxn]; exact ⟨Arr.blk_cell hk 9, Arr.blk_cell hk 2⟩)
  have HB := Lib.hid (show Below W.heap.size W w9 by rw [hw9]; exact below_alloc W _)
  have HE := Lib.hid (show nodesB x.t = (ofN xm && (((Poo.cnt (Poo.lo xm) : Nat) : Int) == xn)) by rw [hxm, hxn]; rfl)
  have HW := Lib.hid (And.intro hw9 hB1)
  clear hw9 hB1 hk hxm hxn
  go_enter Tryz.func143, Tryz.ntmps143
  go_wp2_with fail
  rw [← HW.out.1, ← HW.out.2]
  refine Rel.wp_region_rel (G := Rel.Gr) (Rel.tab [.is (.pointer (some ⟨B1, 9, none⟩)), .is (.int .i64 xm), .is (.int .i64 4294967295), .is (.int .i64 (bits BinOp.and IntKind.i64 xm 4294967295)), .is (.pointer (some ⟨B1, 9, none⟩)), .is (.int .i64 xm), .is (.bool (bits BinOp.and IntKind.i64 xm 4294967295 == xm)), .is (.bool (bits BinOp.and IntKind.i64 xm 4294967295 == xm))]) (fun _ w => Below w9.heap.size w9 w) (by kernel_rfl) (by kernel_rfl) (by kernel_rfl) (by kernel_rfl) (fun w => Rel.gr_refl _) (below_drew _) ?_ ?_
  · refine ⟨?_, ?_, ?_, ?_, ?_, ?_, ?_, ?_, trivial⟩
    · intro L a w c
      refine .inl ⟨Rel.wanted_free (by kernel_rfl) _, ?_⟩
      exact Chn.wp_fa _ _ _ rfl (c.old 1 (v := .pointer (some ⟨B1, 0, none⟩)) (by kernel_rfl) (by kernel_rfl)) (by simp [go_sem]) ⟨_, rfl, Rel.gr_refl _, rfl, c.inv⟩
    · intro L a w c
      refine .inl ⟨Rel.wanted_free (by kernel_rfl) _, ?_⟩
      exact Rel.wp_ld _ _ rfl (c.get 0 4 (by kernel_rfl)) (run_ld2 (cell_keep c.inv HC.out.1)) ⟨_, rfl, Rel.gr_refl _, rfl, c.inv⟩
    · intro L a w c
      refine .inl ⟨Rel.wanted_free (by kernel_rfl) _, ?_⟩
      refine Rel.wp_cl _ _ _ rfl Tryz.func106 (by kernel_rfl) ?_
      show Calls _ _ #[.int .i64 32] w _
      refine (all32 w).mono ?_
      rintro e w' ⟨rfl, rfl⟩
      exact ⟨_, rfl, _, rfl, Rel.gr_refl _, rfl, c.inv⟩
    · intro L a w c
      refine .inl ⟨Rel.wanted_free (by kernel_rfl) _, ?_⟩
      exact Rel.wp_bo _ _ _ _ _ rfl (u := .int .i64 (bits BinOp.and IntKind.i64 xm 4294967295)) (c.get 1 5 (by kernel_rfl)) (c.get 2 6 (by kernel_rfl)) (by simp [go_sem]) ⟨_, rfl, Rel.gr_refl _, rfl, c.inv⟩
    · intro L a w c
      refine .inl ⟨Rel.wanted_free (by kernel_rfl) _, ?_⟩
      exact Chn.wp_fa _ _ _ rfl (c.old 1 (v := .pointer (some ⟨B1, 0, none⟩)) (by kernel_rfl) (by kernel_rfl)) (by simp [go_sem]) ⟨_, rfl, Rel.gr_refl _, rfl, c.inv⟩
    · intro L a w c
      refine .inl ⟨Rel.wanted_free (by kernel_rfl) _, ?_⟩
      exact Rel.wp_ld _ _ rfl (c.get 4 8 (by kernel_rfl)) (run_ld2 (cell_keep c.inv HC.out.1)) ⟨_, rfl, Rel.gr_refl _, rfl, c.inv⟩
    · intro L a w c
      refine .inl ⟨Rel.wanted_free (by kernel_rfl) _, ?_⟩
      exact Rel.wp_bo _ _ _ _ _ rfl (u := .bool (bits BinOp.and IntKind.i64 xm 4294967295 == xm)) (c.get 3 7 (by kernel_rfl)) (c.get 5 9 (by kernel_rfl)) (by simp [go_sem]) ⟨_, rfl, Rel.gr_refl _, rfl, c.inv⟩
    · intro L a w c
      refine .inl ⟨Rel.wanted_free (by kernel_rfl) _, ?_⟩
      exact Rel.wp_as _ rfl ⟨_, rfl, Rel.gr_refl _, (c.get 6 10 (by kernel_rfl)), c.inv⟩
  intro a w8 hbase hroom hdef hJ hV
  have s3 : Rel.slot a 3 = .bool (bits BinOp.and IntKind.i64 xm 4294967295 == xm) := hV 7 _ _ rfl rfl
  rw [Chn.act_puts [4, 5, 6, 7, 8, 9, 10, 3] hbase hroom hdef (by kernel_rfl)]
  clear hbase hroom hdef hV
  simp only [List.foldl_cons, List.foldl_nil]
  generalize Rel.slot a 4 = u4 at *
  generalize Rel.slot a 5 = u5 at *
  generalize Rel.slot a 6 = u6 at *
  generalize Rel.slot a 7 = u7 at *
  generalize Rel.slot a 8 = u8 at *
  generalize Rel.slot a 9 = u9 at *
  generalize Rel.slot a 10 = u10 at *
  rw [s3]
  clear s3
  simp only [Act.put, List.setIfInBounds_toArray, List.set_cons_succ, List.set_cons_zero]
  rw [ofN_eq]
  have HJ := Lib.hid (below_keep HB.out hJ)
  have HD := Lib.hid (And.intro (cell_keep hJ HC.out.1) (cell_keep hJ HC.out.2))
  clear hJ
  cases hb : ofN xm with
  | true =>
    rw [hb] at HE
    clear hb
    go_wp2_with fail
    refine Rel.wp_region_rel (G := Rel.Gr) (Rel.tab [.is (.bool true), .is (.bool true), .is (.pointer (some ⟨B1, 9, none⟩)), .is (.int .i64 xm), .is (.int .i64 (Poo.cnt (Poo.lo xm) : Nat)), .is (.pointer (some ⟨B1, 2, none⟩)), .is (.int .i64 xn), .is (.bool (((Poo.cnt (Poo.lo xm) : Nat) : Int) == xn)), .is (.bool (((Poo.cnt (Poo.lo xm) : Nat) : Int) == xn)), .is (.bool (((Poo.cnt (Poo.lo xm) : Nat) : Int) == xn))]) (fun _ w => Below w8.heap.size w8 w) (by kernel_rfl) (by kernel_rfl) (by kernel_rfl) (by kernel_rfl) (fun w => Rel.gr_refl _) (below_drew _) ?_ ?_
    · refine ⟨?_, ?_, ?_, ?_, ?_, ?_, ?_, ?_, ?_, ?_, trivial⟩
      · intro L a w c
        refine .inl ⟨Rel.wanted_free (by kernel_rfl) _, ?_⟩
        exact Rel.wp_mv _ rfl ⟨_, rfl, Rel.gr_refl _, (c.old 3 (v := .bool true) (by kernel_rfl) (by kernel_rfl)), c.inv⟩
      · intro L a w c
        refine .inl ⟨Rel.wanted_free (by kernel_rfl) _, ?_⟩
        exact Rel.wp_mv _ rfl ⟨_, rfl, Rel.gr_refl _, (c.get 0 11 (by kernel_rfl)), c.inv⟩
      · intro L a w c
        refine .inl ⟨Rel.wanted_by (j := 1) (b := true) (d := 12) (by kernel_rfl) (c.get 1 12 (by kernel_rfl)), ?_⟩
        exact Chn.wp_fa _ _ _ rfl (c.old 1 (v := .pointer (some ⟨B1, 0, none⟩)) (by kernel_rfl) (by kernel_rfl)) (by simp [go_sem]) ⟨_, rfl, Rel.gr_refl _, rfl, c.inv⟩
      · intro L a w c
        refine .inl ⟨Rel.wanted_by (j := 1) (b := true) (d := 12) (by kernel_rfl) (c.get 1 12 (by kernel_rfl)), ?_⟩
        exact Rel.wp_ld _ _ rfl (c.get 2 13 (by kernel_rfl)) (run_ld2 (cell_keep c.inv HD.out.1)) ⟨_, rfl, Rel.gr_refl _, rfl, c.inv⟩
      · intro L a w c
        refine .inl ⟨Rel.wanted_by (j := 1) (b := true) (d := 12) (by kernel_rfl) (c.get 1 12 (by kernel_rfl)), ?_⟩
        refine Rel.wp_cl _ _ _ rfl Tryz.func107 (by kernel_rfl) ?_
        show Calls _ _ #[Rel.slot a 14] w _
        rw [show Rel.slot a 14 = .int .i64 xm from (c.get 3 14 (by kernel_rfl))]
        refine (Poo.count_any w xm).mono ?_
        rintro e w' ⟨rfl, rfl⟩
        exact ⟨_, rfl, _, rfl, Rel.gr_refl _, rfl, c.inv⟩
      · intro L a w c
        refine .inl ⟨Rel.wanted_by (j := 1) (b := true) (d := 12) (by kernel_rfl) (c.get 1 12 (by kernel_rfl)), ?_⟩
        exact Chn.wp_fa _ _ _ rfl (c.old 1 (v := .pointer (some ⟨B1, 0, none⟩)) (by kernel_rfl) (by kernel_rfl)) (by simp [go_sem]) ⟨_, rfl, Rel.gr_refl _, rfl, c.inv⟩
      · intro L a w c
        refine .inl ⟨Rel.wanted_by (j := 1) (b := true) (d := 12) (by kernel_rfl) (c.get 1 12 (by kernel_rfl)), ?_⟩
        exact Rel.wp_ld _ _ rfl (c.get 5 16 (by kernel_rfl)) (run_ld2 (cell_keep c.inv HD.out.2)) ⟨_, rfl, Rel.gr_refl _, rfl, c.inv⟩
      · intro L a w c
        refine .inl ⟨Rel.wanted_by (j := 1) (b := true) (d := 12) (by kernel_rfl) (c.get 1 12 (by kernel_rfl)), ?_⟩
        exact Rel.wp_bo _ _ _ _ _ rfl (u := .bool (((Poo.cnt (Poo.lo xm) : Nat) : Int) == xn)) (c.get 4 15 (by kernel_rfl)) (c.get 6 17 (by kernel_rfl)) (by simp [go_sem]) ⟨_, rfl, Rel.gr_refl _, rfl, c.inv⟩
      · intro L a w c
        refine .inl ⟨Rel.wanted_free (by kernel_rfl) _, ?_⟩
        exact Rel.wp_pk _ _ _ rfl (b := true) (c.get 1 12 (by kernel_rfl)) ⟨_, rfl, Rel.gr_refl _, (c.get 7 18 (by kernel_rfl)), c.inv⟩
      · intro L a w c
        refine .inl ⟨Rel.wanted_free (by kernel_rfl) _, ?_⟩
        exact Rel.wp_as _ rfl ⟨_, rfl, Rel.gr_refl _, (c.get 8 19 (by kernel_rfl)), c.inv⟩
    intro a w7 hbase hroom hdef hJ hV
    have s2 : Rel.slot a 2 = .bool (((Poo.cnt (Poo.lo xm) : Nat) : Int) == xn) := hV 9 _ _ rfl rfl
    rw [Chn.act_puts [11, 12, 13, 14, 15, 16, 17, 18, 19, 2] hbase hroom hdef (by kernel_rfl)]
    clear hbase hroom hdef hV
    simp only [List.foldl_cons, List.foldl_nil]
    generalize Rel.slot a 11 = u11 at *
    generalize Rel.slot a 12 = u12 at *
    generalize Rel.slot a 13 = u13 at *
    generalize Rel.slot a 14 = u14 at *
    generalize Rel.slot a 15 = u15 at *
    generalize Rel.slot a 16 = u16 at *
    generalize Rel.slot a 17 = u17 at *
    generalize Rel.slot a 18 = u18 at *
    generalize Rel.slot a 19 = u19 at *
    rw [s2]
    clear s2
    simp only [Act.put, List.setIfInBounds_toArray, List.set_cons_succ, List.set_cons_zero]
    have HJ2 := Lib.hid (below_keep HJ.out hJ)
    clear hJ
    go_wp2_with fail
    go_ret
    exact ⟨by rw [HE.out]; rfl, HJ2.out⟩
  | false =>
    rw [hb] at HE
    clear hb
    go_wp2_with fail
    refine Rel.wp_region_rel (G := Rel.Gr) (Rel.tab [.is (.bool false), .is (.bool false), .is undef, .is undef, .is undef, .is undef, .is undef, .is undef, .is (.bool false), .is (.bool false)]) (fun _ w => Below w8.heap.size w8 w) (by kernel_rfl) (by kernel_rfl) (by kernel_rfl) (by kernel_rfl) (fun w => Rel.gr_refl _) (below_drew _) ?_ ?_
    · refine ⟨?_, ?_, ?_, ?_, ?_, ?_, ?_, ?_, ?_, ?_, trivial⟩
      · intro L a w c
        refine .inl ⟨Rel.wanted_free (by kernel_rfl) _, ?_⟩
        exact Rel.wp_mv _ rfl ⟨_, rfl, Rel.gr_refl _, (c.old 3 (v := .bool false) (by kernel_rfl) (by kernel_rfl)), c.inv⟩
      · intro L a w c
        refine .inl ⟨Rel.wanted_free (by kernel_rfl) _, ?_⟩
        exact Rel.wp_mv _ rfl ⟨_, rfl, Rel.gr_refl _, (c.get 0 11 (by kernel_rfl)), c.inv⟩
      · intro L a w c
        exact .inr ⟨Chn.wanted_not (j := 1) (b := true) (d := 12) (by kernel_rfl) (c.get 1 12 (by kernel_rfl)), rfl, c.inv⟩
      · intro L a w c
        exact .inr ⟨Chn.wanted_not (j := 1) (b := true) (d := 12) (by kernel_rfl) (c.get 1 12 (by kernel_rfl)), rfl, c.inv⟩
      · intro L a w c
        exact .inr ⟨Chn.wanted_not (j := 1) (b := true) (d := 12) (by kernel_rfl) (c.get 1 12 (by kernel_rfl)), rfl, c.inv⟩
      · intro L a w c
        exact .inr ⟨Chn.wanted_not (j := 1) (b := true) (d := 12) (by kernel_rfl) (c.get 1 12 (by kernel_rfl)), rfl, c.inv⟩
      · intro L a w c
        exact .inr ⟨Chn.wanted_not (j := 1) (b := true) (d := 12) (by kernel_rfl) (c.get 1 12 (by kernel_rfl)), rfl, c.inv⟩
      · intro L a w c
        exact .inr ⟨Chn.wanted_not (j := 1) (b := true) (d := 12) (by kernel_rfl) (c.get 1 12 (by kernel_rfl)), rfl, c.inv⟩
      · intro L a w c
        refine .inl ⟨Rel.wanted_free (by kernel_rfl) _, ?_⟩
        exact Rel.wp_pk _ _ _ rfl (b := false) (c.get 1 12 (by kernel_rfl)) ⟨_, rfl, Rel.gr_refl _, rfl, c.inv⟩
      · intro L a w c
        refine .inl ⟨Rel.wanted_free (by kernel_rfl) _, ?_⟩
        exact Rel.wp_as _ rfl ⟨_, rfl, Rel.gr_refl _, (c.get 8 19 (by kernel_rfl)), c.inv⟩
    intro a w7 hbase hroom hdef hJ hV
    have s2 : Rel.slot a 2 = .bool false := hV 9 _ _ rfl rfl
    rw [Chn.act_puts [11, 12, 13, 14, 15, 16, 17, 18, 19, 2] hbase hroom hdef (by kernel_rfl)]
    clear hbase hroom hdef hV
    simp only [List.foldl_cons, List.foldl_nil]
    generalize Rel.slot a 11 = u11 at *
    generalize Rel.slot a 12 = u12 at *
    generalize Rel.slot a 13 = u13 at *
    generalize Rel.slot a 14 = u14 at *
    generalize Rel.slot a 15 = u15 at *
    generalize Rel.slot a 16 = u16 at *
    generalize Rel.slot a 17 = u17 at *
    generalize Rel.slot a 18 = u18 at *
    generalize Rel.slot a 19 = u19 at *
    rw [s2]
    clear s2
    simp only [Act.put, List.setIfInBounds_toArray, List.set_cons_succ, List.set_cons_zero]
    have HJ2 := Lib.hid (below_keep HJ.out hJ)
    clear hJ
    go_wp2_with fail
    go_ret
    exact ⟨by rw [HE.out]; rfl, HJ2.out⟩
end Go.Proofs.YtjcndgopijpibaaGreat.Job
/- Job, the landed: may a job's draws be? -/
namespace Go.Proofs.YtjcndgopijpibaaGreat.Job
set_option maxRecDepth 100000
open Go.RowKit
open Go.Sort
open Kit
open Tre (Lst inI lst_keep lst_take lst_at lst_new lst_none run_ld2)
open Drw (Dw Draws draw_cells encD_len)
set_option linter.unusedVariables false
variable {w w' : World}
def okD (d : Dw) : Prop := (0 ≤ d.alloc ∧ d.alloc ≤ 15) ∧ 1 ≤ d.amt ∧ d.amt ≤ 1152921504606846976
structure Mk (l : List Dw) (bs : List Bool) : Prop where
  len : bs.length = 16
  bit : ∀ i, i < 16 → (bs[i]? = some true ↔ ∃ d ∈ l, d.alloc = (i : Nat))
  cnt : bs.count true = l.length
  ok : ∀ d ∈ l, okD d
  nodup : (l.map (·.alloc)).Nodup
theorem mk_start : Mk [] (List.replicate 16 false) where
  len := rfl
  bit i hi := by
    rw [List.getElem?_replicate, if_pos hi]
    constructor
    · intro h; cases h
    · rintro ⟨d, hd, -⟩; cases hd
  cnt := rfl
  ok d hd := by cases hd
  nodup := List.nodup_nil
theorem drawsOk_iff (l : List Dw) : drawsOk l = true ↔ l.length ≤ 16 ∧ (∀ d ∈ l, okD d) ∧ (l.map (·.alloc)).Nodup := by
  unfold drawsOk
  rw [Bool.and_eq_true, Bool.and_eq_true, decide_eq_true_iff, decide_eq_true_iff, List.all_eq_true]
  constructor
  · rintro ⟨⟨h1, h2⟩, h3⟩
    exact ⟨h1, fun d hd => by have := of_decide_eq_true (h2 d hd); unfold okD; omega, h3⟩
  · rintro ⟨h1, h2, h3⟩
    exact ⟨⟨h1, fun d hd => decide_eq_true (by have := h2 d hd; unfold okD at this; omega)⟩, h3⟩
theorem mk_end {l : List Dw} {bs : List Bool} (h : Mk l bs) : drawsOk l = true := by
  rw [drawsOk_iff]
  refine ⟨?_, h.ok, h.nodup⟩
  rw [← h.cnt, ← h.len]
  exact List.count_le_length
theorem bad_one {l : List Dw} {k : Nat} {d : Dw} (hx : l[k]? = some d) (h : ¬ okD d) : drawsOk l = false := by
  rw [Bool.eq_false_iff]
  intro hh
  exact h (((drawsOk_iff l).1 hh).2.1 d (List.mem_of_getElem? hx))
theorem bad_two {l : List Dw} {k : Nat} {d : Dw} {bs : List Bool} {i : Nat} (hM : Mk (l.take k) bs) (hx : l[k]? = some d) (hi : i < 16) (hd : d.alloc = (i : Nat)) (hb : bs[i]? = some true) : drawsOk l = false := by
  rw [Bool.eq_false_iff]
  intro hh
  have hn := ((drawsOk_iff l).1 hh).2.2
  obtain ⟨d', hd', e⟩ := (hM.bit i hi).1 hb
  obtain ⟨j, hj, ej⟩ := List.mem_take_iff_getElem.1 hd'
  obtain ⟨hk, ek⟩ := List.getElem?_eq_some_iff.1 hx
  have := List.pairwise_iff_getElem.1 hn j k (by rw [List.length_map]; omega) (by rw [List.length_map]; exact hk) (by omega)
  rw [List.getElem_map, List.getElem_map, ej, ek, e, hd] at this
  exact this rfl
theorem mk_step {l : List Dw} {k : Nat} {d : Dw} {bs : List Bool} {i : Nat} (hM : Mk (l.take k) bs) (hx : l[k]? = some d) (hi : i < 16) (hd : d.alloc = (i : Nat)) (hb : bs[i]? = some false) (hok : okD d) : Mk (l.take (k + 1)) (bs.set i true) := by
  obtain ⟨hk, ek⟩ := List.getElem?_eq_some_iff.1 hx
  have ht : l.take (k + 1) = l.take k ++ [d] := by rw [List.take_succ_eq_append_getElem hk, ek]
  have hil : i < bs.length := by rw [hM.len]; exact hi
  rw [ht]
  refine ⟨by rw [List.length_set]; exact hM.len, fun j hj => ?_, ?_, ?_, ?_⟩
  · rw [List.getElem?_set]
    by_cases hij : i = j
    · subst hij
      rw [if_pos rfl, if_pos hil]
      exact ⟨fun _ => ⟨d, by simp, hd⟩, fun _ => rfl⟩
    · rw [if_neg hij, hM.bit j hj]
      constructor
      · rintro ⟨x, h1, h2⟩
        exact ⟨x, List.mem_append_left _ h1, h2⟩
      · rintro ⟨x, h1, h2⟩
        rcases List.mem_append.1 h1 with h1 | h1
        · exact ⟨x, h1, h2⟩
        · rw [List.mem_singleton] at h1
          subst h1
          omega
  · have hg : bs[i] = false := by
      have := List.getElem?_eq_getElem hil
      rw [hb] at this
      injection this with this
      exact this.symm
    rw [List.count_set hil, hg, hM.cnt, List.length_append]
    rfl
  · intro x hx'
    rcases List.mem_append.1 hx' with h | h
    · exact hM.ok x h
    · rw [List.mem_singleton] at h
      subst h
      exact hok
  · rw [List.map_append, List.nodup_append]
    refine ⟨hM.nodup, by simp, ?_⟩
    intro a ha b hbm
    rw [List.map_cons, List.map_nil, List.mem_singleton] at hbm
    subst hbm
    obtain ⟨x, hx1, rfl⟩ := List.mem_map.1 ha
    intro e
    have := (hM.bit i hi).2 ⟨x, hx1, by rw [e]; exact hd⟩
    rw [hb] at this
    cases this
set_option maxHeartbeats 8000000 in
theorem drawn_any (W : World) (a : Option Addr) (n c : Nat) (l : List Dw) (h : Draws W a n c l) :
    Calls Tryz.prog 144 #[.slice a n c] W fun e w' => e = .returned (.bool (drawsOk l)) ∧ Below W.heap.size W w' := by
  have hm1 : n ≤ 9223372036854775807 := by have := h.cap; have := h.max; unfold maxLen at this; omega
  have HL := Lib.hid (And.intro h h.len)
  have HS := Lib.hid (And.intro (Arr.blk_new W W.heap.size 172 ((List.replicate 16 false).map Value.bool) rfl) (below_alloc W (.cells ((List.replicate 16 false).map Value.bool).toArray 172)))
  clear h
  go_enter Tryz.func144, Tryz.ntmps144
  go_wp2_with fail
  go_loopw [8] (fun i wr => ∃ (k : Nat) (bs : List Bool), k ≤ n ∧ i = .int .i64 (k : Nat) ∧ Arr.Blk wr W.heap.size 172 (bs.map Value.bool) ∧ Below W.heap.size W wr ∧ Mk (l.take k) bs) (fun i _ => n - (intOf i).toNat)
  case atStart => exact ⟨0, _, Nat.zero_le _, rfl, HS.out.1, HS.out.2, by rw [List.take_zero]; exact mk_start⟩
  case round =>
    obtain ⟨k, bs, hk, rfl, hblk, hb, hM⟩ := hrel
    have HO := Lib.hid (And.intro hblk (And.intro hb hM))
    clear hblk hb hM
    by_cases hlt : k < n
    · have hlti : (k : Int) < (n : Int) := by omega
      have hkl : k < l.length := by rw [HL.out.2]; exact hlt
      obtain ⟨b, o, rfl⟩ := lst_at HL.out.1 (by omega)
      obtain ⟨q0, q1⟩ := draw_cells (lst_keep encD_len HL.out.1 HO.out.2.1) hkl
      have hx : l[k]? = some l[k] := List.getElem?_eq_getElem hkl
      generalize l[k] = x at *
      obtain ⟨x0, x1⟩ := x
      simp only at q0 q1
      have HX := Lib.hid hx
      have HBa := Lib.hid (And.intro (Arr.blk_alloc HO.out.1 (.cells #[.int .i64 x0, .int .i64 x1] 63)) (below_keep HO.out.2.1 (below_alloc wr (.cells #[.int .i64 x0, .int .i64 x1] 63))))
      clear hx hkl
      cases h1 : wi x0 0 15 with
      | false =>
        have H1 := Lib.hid h1
        have HE := Lib.hid (show drawsOk l = false from bad_one HX.out (fun hh => by
          have h2 := hh.1
          simp only at h2
          unfold wi at h1
          rw [decide_eq_true h2.1, decide_eq_true h2.2] at h1
          cases h1))
        clear h1
        go_wp2_with fail
        refine (within_any _ _ _ _).mono ?_
        rintro e w1 ⟨rfl, rfl⟩
        rw [H1.out]
        go_wp2_with fail
        go_ret
        exact ⟨by rw [HE.out]; rfl, HBa.out.2⟩
      | true =>
        have hr : 0 ≤ x0 ∧ x0 ≤ 15 := by
          unfold wi at h1
          rw [Bool.and_eq_true, decide_eq_true_iff, decide_eq_true_iff] at h1
          exact h1
        have H1 := Lib.hid h1
        clear h1
        obtain ⟨i, rfl⟩ : ∃ i : Nat, x0 = (i : Int) := ⟨x0.toNat, by omega⟩
        have hi : i < 16 := by omega
        have hii : (i : Int) < 16 := by omega
        have HR := Lib.hid hr
        clear hr
        obtain ⟨b2, hb2⟩ : ∃ b2, bs[i]? = some b2 := ⟨_, List.getElem?_eq_getElem (by rw [HO.out.2.2.len]; exact hi)⟩
        have p2 : (wr.alloc (.cells #[.int .i64 (i : Int), .int .i64 x1] 63)).cell? ⟨W.heap.size, i, none⟩ = some (.bool b2) := by rw [Arr.blk_cell HBa.out.1, List.getElem?_map, hb2]; rfl
        have f2 : (wr.alloc (.cells #[.int .i64 (i : Int), .int .i64 x1] 63)).frozen? ⟨W.heap.size, i, none⟩ = false := Arr.blk_frozen HBa.out.1 i
        have HB2 := Lib.hid hb2
        clear hb2
        have hwr : W.heap.size < wr.heap.size := Arr.blk_lt HO.out.1
        have hcl2 : wr.cell? ⟨W.heap.size, i, none⟩ = some (.bool b2) := by rw [Arr.blk_cell HO.out.1, List.getElem?_map, HB2.out]; rfl
        have hcf2 : wr.frozen? ⟨W.heap.size, i, none⟩ = false := Arr.blk_frozen HO.out.1 i
        cases b2 with
        | true =>
          have HE := Lib.hid (bad_two HO.out.2.2 HX.out hi rfl HB2.out)
          go_wp2_with fail
          refine (within_any _ _ _ _).mono ?_
          rintro e w1 ⟨rfl, rfl⟩
          rw [H1.out]
          go_wp2_with fail
          go_ret
          exact ⟨by rw [HE.out]; rfl, HBa.out.2⟩
        | false =>
          cases h3 : wi x1 1 1152921504606846976 with
          | false =>
            have H3 := Lib.hid h3
            have HE := Lib.hid (show drawsOk l = false from bad_one HX.out (fun hh => by
              have h2 := hh.2
              simp only at h2
              unfold wi at h3
              rw [decide_eq_true h2.1, decide_eq_true h2.2] at h3
              cases h3))
            clear h3
            go_wp2_with fail
            refine (within_any _ _ _ _).mono ?_
            rintro e w1 ⟨rfl, rfl⟩
            rw [H1.out]
            go_wp2_with fail
            refine (within_any _ _ _ _).mono ?_
            rintro e w1 ⟨rfl, rfl⟩
            rw [H3.out]
            go_wp2_with fail
            go_ret
            exact ⟨by rw [HE.out]; rfl, HBa.out.2⟩
          | true =>
            have H3 := Lib.hid h3
            have HM := Lib.hid (mk_step HO.out.2.2 HX.out hi rfl HB2.out ⟨HR.out, by
              unfold wi at h3
              rw [Bool.and_eq_true, decide_eq_true_iff, decide_eq_true_iff] at h3
              exact h3⟩)
            have HSt := Lib.hid (And.intro (Arr.blk_alloc (Arr.blk_set HO.out.1 i (.bool true)) (.cells #[.int .i64 (i : Int), .int .i64 x1] 63)) (below_keep (Arr.below_set HO.out.2.1 (Nat.le_refl _) i (.bool true)) (below_alloc _ (.cells #[.int .i64 (i : Int), .int .i64 x1] 63))))
            clear h3
            go_wp2_with fail
            refine (within_any _ _ _ _).mono ?_
            rintro e w1 ⟨rfl, rfl⟩
            rw [H1.out]
            go_wp2_with fail
            refine (within_any _ _ _ _).mono ?_
            rintro e w1 ⟨rfl, rfl⟩
            rw [H3.out]
            go_wp2_with fail
            go_roundw
            case rel => exact ⟨k + 1, bs.set i true, by omega, by go_num, by rw [List.map_set]; exact HSt.out.1, HSt.out.2, HM.out⟩
            case measure => simp [intOf]; omega
    · obtain rfl : k = n := by omega
      have hni : ¬ (k : Int) < (k : Int) := by omega
      have HE := Lib.hid (show drawsOk l = true by
        have := HO.out.2.2
        rw [List.take_of_length_le (by rw [HL.out.2]; exact Nat.le_refl _)] at this
        exact mk_end this)
      go_wp2_with fail
      go_ret
      exact ⟨by rw [HE.out]; rfl, HO.out.2.1⟩
end Go.Proofs.YtjcndgopijpibaaGreat.Job
