/- Common to the claims of this seat, part 21: texts that were written one by one, laid behind one another. -/
import Derived.Test.YtjcndgopijpibaaGreatPart6
import Derived.Test.YtjcndgopijpibaaGreatPart7
import Derived.Test.YtjcndgopijpibaaGreatPart20
/- Job, the landed: may a job be? -/
namespace Go.Proofs.YtjcndgopijpibaaGreat.Job
set_option maxRecDepth 100000
open Go.RowKit
open Go.Sort
open Kit
open Tre (Lst inI lst_keep lst_take lst_at lst_new lst_none run_ld2)
open Drw (Dw Draws draw_cells encD encD_len)
set_option linter.unusedVariables false
variable {w w' : World}
def hasB (j : Jb) : Bool :=
  if j.state = 1 ∨ j.state = 2 then (j.start == 0) && (j.mask == 0) && (j.used == 0) && decide (j.draws.length = 0)
  else if j.state = 3 then wi j.start 0 1099511627776 && nodesB j && (j.used == 0) && drawsOk j.draws
  else if j.state = 4 then wi j.start 0 1099511627776 && (j.mask == 0) && wi j.used 0 j.wall && drawsOk j.draws
  else false
theorem wi_iff (n lo hi : Int) : wi n lo hi = true ↔ lo ≤ n ∧ n ≤ hi := by
  unfold wi
  rw [Bool.and_eq_true, decide_eq_true_iff, decide_eq_true_iff]
theorem good_eq (j : Jb) : (wantsB j && hasB j) = goodJ j := by
  rw [Bool.eq_iff_iff, Bool.and_eq_true]
  unfold goodJ
  rw [Bool.and_eq_true, decide_eq_true_iff]
  have h1 : wantsB j = true ↔ 1 ≤ j.id ∧ 0 ≤ j.fund ∧ j.fund ≤ 7 ∧ 1 ≤ j.nodes ∧ j.nodes ≤ 32 ∧ 1 ≤ j.wall ∧ j.wall ≤ 1048576 ∧ 0 ≤ j.qos ∧ j.qos ≤ 7 ∧ 0 ≤ j.prio ∧ j.prio ≤ 1048576 ∧ 0 ≤ j.price ∧ j.price ≤ 1099511627776 := by
    unfold wantsB
    simp only [Bool.and_eq_true, wi_iff, decide_eq_true_iff, and_assoc]
  rw [h1]
  refine and_congr_right fun _ => ?_
  unfold hasB
  by_cases h12 : j.state = 1 ∨ j.state = 2
  · rw [if_pos h12, if_pos h12]
    simp only [Bool.and_eq_true, beq_iff_eq, decide_eq_true_iff, and_assoc]
  · rw [if_neg h12, if_neg h12, Bool.and_eq_true, Bool.and_eq_true, decide_eq_true_iff]
    by_cases h3 : j.state = 3
    · rw [if_pos h3, if_pos h3]
      unfold nodesB ofN
      simp only [Bool.and_eq_true, beq_iff_eq, decide_eq_true_iff, wi_iff]
      constructor
      · rintro ⟨⟨⟨h, ⟨h4, h5⟩, h6⟩, h7⟩, h8⟩
        exact ⟨⟨h, h8⟩, h4, h5, h6, h7⟩
      · rintro ⟨⟨h, h8⟩, h4, h5, h6, h7⟩
        exact ⟨⟨⟨h, ⟨h4, h5⟩, h6⟩, h7⟩, h8⟩
    · rw [if_neg h3, if_neg h3]
      by_cases h4 : j.state = 4
      · rw [if_pos h4]
        simp only [Bool.and_eq_true, beq_iff_eq, decide_eq_true_iff, wi_iff]
        constructor
        · rintro ⟨⟨⟨h, h5⟩, h6⟩, h7⟩
          exact ⟨⟨h, h7⟩, h4, h5, h6⟩
        · rintro ⟨⟨h, h7⟩, -, h5, h6⟩
          exact ⟨⟨⟨h, h5⟩, h6⟩, h7⟩
      · rw [if_neg h4]
        simp only [decide_eq_true_iff]
        constructor
        · intro h; cases h
        · rintro ⟨-, h, -⟩; exact absurd h h4
set_option maxHeartbeats 16000000 in
theorem has_any (x : Jv) (W : World) (hin : x.In W) : Calls Tryz.prog 122 #[.agg (encJ x).toArray] W fun e w' => e = .returned (.bool (hasB x.t)) ∧ Below W.heap.size W w' := by
  have HN := Lib.hid (fun w => nodes_any x w)
  obtain ⟨w9, hw9⟩ : ∃ z, z = W.alloc (.cells (encJ x).toArray 58) := ⟨_, rfl⟩
  obtain ⟨B1, hB1⟩ : ∃ z, z = W.heap.size := ⟨_, rfl⟩
  have hk : Arr.Blk w9 B1 58 (encJ x) := by rw [hw9, hB1]; exact blk_boxJ W x
  have hb : Below W.heap.size W w9 := by rw [hw9]; exact below_alloc W _
  have HB := Lib.hid hb
  have hlen := hin.len
  have hDr : Draws w9 x.a x.n x.c x.t.draws := lst_keep encD_len hin hb
  obtain ⟨⟨x0, x1, x2, x3, x4, x5, x6, x7, x8, x9, x10, xd⟩, xa, xn, xc⟩ := x
  simp only at hDr hlen
  have p0 := Arr.blk_cell hk 0
  have p1 := Arr.blk_cell hk 1
  have p2 := Arr.blk_cell hk 2
  have p3 := Arr.blk_cell hk 3
  have p4 := Arr.blk_cell hk 4
  have p5 := Arr.blk_cell hk 5
  have p6 := Arr.blk_cell hk 6
  have p7 := Arr.blk_cell hk 7
  have p8 := Arr.blk_cell hk 8
  have p9 := Arr.blk_cell hk 9
  have p10 := Arr.blk_cell hk 10
  have p11 := Arr.blk_cell hk 11
  simp only [encJ, List.getElem?_cons_zero, List.getElem?_cons_succ] at p0 p1 p2 p3 p4 p5 p6 p7 p8 p9 p10 p11
  have HK := Lib.hid hk
  have HDr := Lib.hid (fun w (hbw : Below w9.heap.size w9 w) => drawn_any w xa xn xc xd (lst_keep encD_len hDr hbw))
  have HLen := Lib.hid hlen
  have HEq := Lib.hid (show hasB (⟨x0, x1, x2, x3, x4, x5, x6, x7, x8, x9, x10, xd⟩ : Jb) = (if x7 = 1 ∨ x7 = 2 then (x8 == 0) && (x9 == 0) && (x10 == 0) && decide (xd.length = 0) else if x7 = 3 then wi x8 0 1099511627776 && nodesB (⟨x0, x1, x2, x3, x4, x5, x6, x7, x8, x9, x10, xd⟩ : Jb) && (x10 == 0) && drawsOk xd else if x7 = 4 then wi x8 0 1099511627776 && (x9 == 0) && wi x10 0 x3 && drawsOk xd else false) from rfl)
  unfold encJ at hw9
  have HW := Lib.hid (And.intro hw9 hB1)
  obtain ⟨dr, hdr⟩ : ∃ z, z = drawsOk xd := ⟨_, rfl⟩
  obtain ⟨nd, hnd⟩ : ∃ z, z = nodesB (⟨x0, x1, x2, x3, x4, x5, x6, x7, x8, x9, x10, xd⟩ : Jb) := ⟨_, rfl⟩
  rw [← hdr] at HDr HEq
  simp only at HN
  rw [← hnd] at HN HEq
  clear hw9 hB1 hk hb hin hlen hDr hdr hnd
  unfold encJ at HN ⊢
  by_cases h12 : x7 = 1 ∨ x7 = 2
  · have HEq2 := Lib.hid (show hasB (⟨x0, x1, x2, x3, x4, x5, x6, x7, x8, x9, x10, xd⟩ : Jb) = ((x8 == 0) && (x9 == 0) && (x10 == 0) && decide (xd.length = 0)) by rw [HEq.out, if_pos h12])
    have hz : decide (xd.length = 0) = ((xn : Int) == 0) := by rw [Bool.eq_iff_iff, decide_eq_true_iff, beq_iff_eq, HLen.out]; omega
    rw [hz] at HEq2
    clear hz HEq HN HDr
    rcases h12 with rfl | rfl
    all_goals
      by_cases c8 : x8 = 0
      · subst c8
        by_cases c9 : x9 = 0
        · subst c9
          by_cases c10 : x10 = 0
          · subst c10
            by_cases cn : xn = 0
            · subst cn
              have HE := Lib.hid (HEq2.out.trans (show _ = true from rfl))
              go_enter Tryz.func122, Tryz.ntmps122
              go_wp2_with fail
              rw [← HW.out.1, ← HW.out.2]
              go_wp2_with fail
              go_ret
              exact ⟨by rw [HE.out]; rfl, by first | exact HB.out | (rw [HW.out.2]; exact HB.out)⟩
            · have cb : ((xn : Int) == 0) = false := beq_false_of_ne (by omega)
              have HE := Lib.hid (HEq2.out.trans (show _ = false by rw [cb]; rfl))
              go_enter Tryz.func122, Tryz.ntmps122
              go_wp2_with fail
              rw [← HW.out.1, ← HW.out.2]
              go_wp2_with fail
              go_ret
              exact ⟨by rw [HE.out]; rfl, by first | exact HB.out | (rw [HW.out.2]; exact HB.out)⟩
          · have cb : (x10 == 0) = false := beq_false_of_ne c10
            have HE := Lib.hid (HEq2.out.trans (show _ = false by rw [cb]; simp))
            go_enter Tryz.func122, Tryz.ntmps122
            go_wp2_with fail
            rw [← HW.out.1, ← HW.out.2]
            go_wp2_with fail
            go_ret
            exact ⟨by rw [HE.out]; rfl, by first | exact HB.out | (rw [HW.out.2]; exact HB.out)⟩
        · have cb : (x9 == 0) = false := beq_false_of_ne c9
          have HE := Lib.hid (HEq2.out.trans (show _ = false by rw [cb]; simp))
          go_enter Tryz.func122, Tryz.ntmps122
          go_wp2_with fail
          rw [← HW.out.1, ← HW.out.2]
          go_wp2_with fail
          go_ret
          exact ⟨by rw [HE.out]; rfl, by first | exact HB.out | (rw [HW.out.2]; exact HB.out)⟩
      · have cb : (x8 == 0) = false := beq_false_of_ne c8
        have HE := Lib.hid (HEq2.out.trans (show _ = false by rw [cb]; simp))
        go_enter Tryz.func122, Tryz.ntmps122
        go_wp2_with fail
        rw [← HW.out.1, ← HW.out.2]
        go_wp2_with fail
        go_ret
        exact ⟨by rw [HE.out]; rfl, by first | exact HB.out | (rw [HW.out.2]; exact HB.out)⟩
  · have n1 : ¬ x7 = 1 := fun h => h12 (.inl h)
    have n2 : ¬ x7 = 2 := fun h => h12 (.inr h)
    by_cases c3 : x7 = 3
    · have HEq2 := Lib.hid (show hasB (⟨x0, x1, x2, x3, x4, x5, x6, x7, x8, x9, x10, xd⟩ : Jb) = (wi x8 0 1099511627776 && nd && (x10 == 0) && dr) by rw [HEq.out, if_neg h12, if_pos c3])
      clear HEq h12
      subst c3
      clear n1 n2
      cases h1 : wi x8 0 1099511627776 with
      | false =>
        have HE := Lib.hid (HEq2.out.trans (show _ = false by rw [h1]; simp))
        have H1 := Lib.hid h1
        clear h1
        go_enter Tryz.func122, Tryz.ntmps122
        go_wp2_with fail
        rw [← HW.out.1, ← HW.out.2]
        go_wp2_with fail
        refine (within_any _ _ _ _).mono ?_
        rintro e w1 h1
        obtain ⟨rfl, h0⟩ := h1
        replace h0 := h0.symm
        subst h0
        rw [H1.out]
        go_wp2_with fail
        go_ret
        exact ⟨by rw [HE.out]; rfl, by first | exact HB.out | (rw [HW.out.2]; exact HB.out)⟩
      | true =>
        have H1 := Lib.hid h1
        rw [h1] at HEq2
        clear h1
        cases nd with
        | false =>
          have HE := Lib.hid (HEq2.out.trans (show _ = false by simp))
          go_enter Tryz.func122, Tryz.ntmps122
          go_wp2_with fail
          rw [← HW.out.1, ← HW.out.2]
          go_wp2_with fail
          refine (within_any _ _ _ _).mono ?_
          rintro e w1 h1
          obtain ⟨rfl, h0⟩ := h1
          replace h0 := h0.symm
          subst h0
          rw [H1.out]
          go_wp2_with fail
          refine (HN.out _).mono ?_
          rintro e w8 ⟨rfl, hb8⟩
          have HB8 := Lib.hid (And.intro hb8 (below_keep HB.out hb8))
          have r10 := cell_keep hb8 p10
          have r11 := cell_keep hb8 p11
          clear hb8 p0 p1 p2 p3 p4 p5 p6 p7 p8 p9 p10 p11
          go_wp2_with fail
          go_ret
          exact ⟨by rw [HE.out]; rfl, by first | exact HB8.out.2 | (rw [HW.out.2]; exact HB8.out.2)⟩
        | true =>
          by_cases c10 : x10 = 0
          · subst c10
            have HE := Lib.hid (HEq2.out.trans (show _ = dr by simp))
            go_enter Tryz.func122, Tryz.ntmps122
            go_wp2_with fail
            rw [← HW.out.1, ← HW.out.2]
            go_wp2_with fail
            refine (within_any _ _ _ _).mono ?_
            rintro e w1 h1
            obtain ⟨rfl, h0⟩ := h1
            replace h0 := h0.symm
            subst h0
            rw [H1.out]
            go_wp2_with fail
            refine (HN.out _).mono ?_
            rintro e w8 ⟨rfl, hb8⟩
            have HB8 := Lib.hid (And.intro hb8 (below_keep HB.out hb8))
            have r10 := cell_keep hb8 p10
            have r11 := cell_keep hb8 p11
            clear hb8 p0 p1 p2 p3 p4 p5 p6 p7 p8 p9 p10 p11
            go_wp2_with fail
            refine (HDr.out _ HB8.out.1).mono ?_
            rintro e w7 ⟨rfl, hb7⟩
            have HB7 := Lib.hid (below_keep HB8.out.2 hb7)
            clear hb7
            go_wp2_with fail
            go_ret
            exact ⟨by rw [HE.out]; rfl, by first | exact HB7.out | (rw [HW.out.2]; exact HB7.out)⟩
          · have cb : (x10 == 0) = false := beq_false_of_ne c10
            have HE := Lib.hid (HEq2.out.trans (show _ = false by rw [cb]; simp))
            go_enter Tryz.func122, Tryz.ntmps122
            go_wp2_with fail
            rw [← HW.out.1, ← HW.out.2]
            go_wp2_with fail
            refine (within_any _ _ _ _).mono ?_
            rintro e w1 h1
            obtain ⟨rfl, h0⟩ := h1
            replace h0 := h0.symm
            subst h0
            rw [H1.out]
            go_wp2_with fail
            refine (HN.out _).mono ?_
            rintro e w8 ⟨rfl, hb8⟩
            have HB8 := Lib.hid (And.intro hb8 (below_keep HB.out hb8))
            have r10 := cell_keep hb8 p10
            have r11 := cell_keep hb8 p11
            clear hb8 p0 p1 p2 p3 p4 p5 p6 p7 p8 p9 p10 p11
            go_wp2_with fail
            go_ret
            exact ⟨by rw [HE.out]; rfl, by first | exact HB8.out.2 | (rw [HW.out.2]; exact HB8.out.2)⟩
    · by_cases c4 : x7 = 4
      · have HEq2 := Lib.hid (show hasB (⟨x0, x1, x2, x3, x4, x5, x6, x7, x8, x9, x10, xd⟩ : Jb) = (wi x8 0 1099511627776 && (x9 == 0) && wi x10 0 x3 && dr) by rw [HEq.out, if_neg h12, if_neg c3, if_pos c4])
        clear HEq h12 c3
        subst c4
        clear n1 n2 HN
        cases h1 : wi x8 0 1099511627776 with
        | false =>
          have HE := Lib.hid (HEq2.out.trans (show _ = false by rw [h1]; simp))
          have H1 := Lib.hid h1
          clear h1
          go_enter Tryz.func122, Tryz.ntmps122
          go_wp2_with fail
          rw [← HW.out.1, ← HW.out.2]
          go_wp2_with fail
          refine (within_any _ _ _ _).mono ?_
          rintro e w1 h1
          obtain ⟨rfl, h0⟩ := h1
          replace h0 := h0.symm
          subst h0
          rw [H1.out]
          go_wp2_with fail
          go_ret
          exact ⟨by rw [HE.out]; rfl, by first | exact HB.out | (rw [HW.out.2]; exact HB.out)⟩
        | true =>
          have H1 := Lib.hid h1
          rw [h1] at HEq2
          clear h1
          by_cases c9 : x9 = 0
          · subst c9
            cases h2 : wi x10 0 x3 with
            | false =>
              have HE := Lib.hid (HEq2.out.trans (show _ = false by rw [h2]; simp))
              have H2 := Lib.hid h2
              clear h2
              go_enter Tryz.func122, Tryz.ntmps122
              go_wp2_with fail
              rw [← HW.out.1, ← HW.out.2]
              go_wp2_with fail
              refine (within_any _ _ _ _).mono ?_
              rintro e w1 h1
              obtain ⟨rfl, h0⟩ := h1
              replace h0 := h0.symm
              subst h0
              rw [H1.out]
              go_wp2_with fail
              refine (within_any _ _ _ _).mono ?_
              rintro e w1 h1
              obtain ⟨rfl, h0⟩ := h1
              replace h0 := h0.symm
              subst h0
              rw [H2.out]
              go_wp2_with fail
              go_ret
              exact ⟨by rw [HE.out]; rfl, by first | exact HB.out | (rw [HW.out.2]; exact HB.out)⟩
            | true =>
              have HE := Lib.hid (HEq2.out.trans (show _ = dr by rw [h2]; simp))
              have H2 := Lib.hid h2
              clear h2
              go_enter Tryz.func122, Tryz.ntmps122
              go_wp2_with fail
              rw [← HW.out.1, ← HW.out.2]
              go_wp2_with fail
              refine (within_any _ _ _ _).mono ?_
              rintro e w1 h1
              obtain ⟨rfl, h0⟩ := h1
              replace h0 := h0.symm
              subst h0
              rw [H1.out]
              go_wp2_with fail
              refine (within_any _ _ _ _).mono ?_
              rintro e w1 h1
              obtain ⟨rfl, h0⟩ := h1
              replace h0 := h0.symm
              subst h0
              rw [H2.out]
              go_wp2_with fail
              refine (HDr.out _ (Below.refl _ _)).mono ?_
              rintro e w7 ⟨rfl, hb7⟩
              have HB7 := Lib.hid (below_keep HB.out hb7)
              clear hb7
              go_wp2_with fail
              go_ret
              exact ⟨by rw [HE.out]; rfl, by first | exact HB7.out | (rw [HW.out.2]; exact HB7.out)⟩
          · have cb : (x9 == 0) = false := beq_false_of_ne c9
            have HE := Lib.hid (HEq2.out.trans (show _ = false by rw [cb]; simp))
            go_enter Tryz.func122, Tryz.ntmps122
            go_wp2_with fail
            rw [← HW.out.1, ← HW.out.2]
            go_wp2_with fail
            refine (within_any _ _ _ _).mono ?_
            rintro e w1 h1
            obtain ⟨rfl, h0⟩ := h1
            replace h0 := h0.symm
            subst h0
            rw [H1.out]
            go_wp2_with fail
            go_ret
            exact ⟨by rw [HE.out]; rfl, by first | exact HB.out | (rw [HW.out.2]; exact HB.out)⟩
      · have HE := Lib.hid (show hasB (⟨x0, x1, x2, x3, x4, x5, x6, x7, x8, x9, x10, xd⟩ : Jb) = false by rw [HEq.out, if_neg h12, if_neg c3, if_neg c4])
        clear HEq h12 HN HDr
        go_enter Tryz.func122, Tryz.ntmps122
        go_wp2_with fail
        rw [← HW.out.1, ← HW.out.2]
        go_wp2_with fail
        go_ret
        exact ⟨by rw [HE.out]; rfl, by first | exact HB.out | (rw [HW.out.2]; exact HB.out)⟩
set_option maxHeartbeats 4000000 in
theorem good_any (x : Jv) (W : World) (hin : x.In W) : Calls Tryz.prog 95 #[.agg (encJ x).toArray] W fun e w' => e = .returned (.bool (goodJ x.t)) ∧ Below W.heap.size W w' := by
  obtain ⟨w9, hw9⟩ : ∃ z, z = W.alloc (.cells (encJ x).toArray 58) := ⟨_, rfl⟩
  obtain ⟨B1, hB1⟩ : ∃ z, z = W.heap.size := ⟨_, rfl⟩
  have hk : Arr.Blk w9 B1 58 (encJ x) := by rw [hw9, hB1]; exact blk_boxJ W x
  have hb : Below W.heap.size W w9 := by rw [hw9]; exact below_alloc W _
  have HB := Lib.hid (And.intro hb (And.intro hk (lst_keep encD_len hin hb)))
  have HWa := Lib.hid (fun w => wants_any x w)
  have HHa := Lib.hid (fun w (hw : Draws w x.a x.n x.c x.t.draws) => has_any x w hw)
  have HE := Lib.hid (good_eq x.t)
  have HW := Lib.hid (And.intro hw9 hB1)
  obtain ⟨wb, hwb⟩ : ∃ z, z = wantsB x.t := ⟨_, rfl⟩
  rw [← hwb] at HWa HE
  clear hw9 hB1 hk hb hin hwb
  go_enter Tryz.func95, Tryz.ntmps95
  go_upto_region 1 with fail
  rw [← HW.out.1, ← HW.out.2]
  go_wp2_with (first | (refine Arr.wpList_load_blk rfl 58 (.tmp 1) rfl B1 rfl (encJ x) 58 HB.out.2.1 _ Tryz.underlying58 rfl info_job12 ?_) | fail)
  refine (HWa.out _).mono ?_
  rintro e w8 ⟨rfl, hb8⟩
  have HB8 := Lib.hid (And.intro (below_keep HB.out.1 hb8) (And.intro (Arr.blk_below HB.out.2.1 hb8 (Arr.blk_lt HB.out.2.1)) (lst_keep encD_len HB.out.2.2 hb8)))
  clear hb8 HWa
  cases wb with
  | false =>
    have HE2 := Lib.hid (HE.out.symm.trans (show _ = false from rfl))
    clear HHa
    go_wp2_with fail
    go_ret
    exact ⟨by rw [HE2.out]; rfl, by first | exact HB8.out.1 | (rw [HW.out.2]; exact HB8.out.1)⟩
  | true =>
    have HE2 := Lib.hid (HE.out.symm.trans (show _ = hasB x.t from rfl))
    obtain ⟨⟨x0, x1, x2, x3, x4, x5, x6, x7, x8, x9, x10, xd⟩, xa, xn, xc⟩ := x
    have hk := HB8.out.2.1
    have p0 := Arr.blk_cell hk 0
    have p1 := Arr.blk_cell hk 1
    have p2 := Arr.blk_cell hk 2
    have p3 := Arr.blk_cell hk 3
    have p4 := Arr.blk_cell hk 4
    have p5 := Arr.blk_cell hk 5
    have p6 := Arr.blk_cell hk 6
    have p7 := Arr.blk_cell hk 7
    have p8 := Arr.blk_cell hk 8
    have p9 := Arr.blk_cell hk 9
    have p10 := Arr.blk_cell hk 10
    have p11 := Arr.blk_cell hk 11
    simp only [encJ, List.getElem?_cons_zero, List.getElem?_cons_succ] at p0 p1 p2 p3 p4 p5 p6 p7 p8 p9 p10 p11
    clear hk
    go_wp2_with fail
    refine (HHa.out _ HB8.out.2.2).mono ?_
    rintro e w7 ⟨rfl, hb7⟩
    have HB7 := Lib.hid (below_keep HB8.out.1 hb7)
    clear hb7
    go_wp2_with fail
    go_ret
    exact ⟨by rw [HE2.out]; rfl, by first | exact HB7.out | (rw [HW.out.2]; exact HB7.out)⟩
end Go.Proofs.YtjcndgopijpibaaGreat.Job
/- Common: two boxes made and written in a region that draws its order (`x, y := l[i], l[j]` of structs). -/
namespace Go.Proofs.YtjcndgopijpibaaGreat.BoxTwo
open Go.RowKit
open Kit
open Rel (slot)
set_option linter.unusedVariables false
structure At where
  i1 : Nat
  i2 : Nat
  s1 : Nat
  s2 : Nat
  d1 : Nat
  d2 : Nat
def Box (W : World) (T : TypeId) (Z X : List Value) (done : Bool) (v : Value) (w : World) : Prop := ∃ B, v = .pointer (some ⟨B, 0, none⟩) ∧ W.heap.size ≤ B ∧ Arr.Blk w B T (if done = true then X else Z)
def J (n : At) (W : World) (T : TypeId) (Z X Y : List Value) (L : Array Bool) (f : Tmp → Value) (w : World) : Prop :=
  Below W.heap.size W w ∧ (L.getD n.i1 false = true → Box W T Z X (L.getD n.s1 false) (f n.d1) w) ∧ (L.getD n.i2 false = true → Box W T Z Y (L.getD n.s2 false) (f n.d2) w) ∧ (L.getD n.i1 false = true → L.getD n.i2 false = true → f n.d1 ≠ f n.d2)
variable {n : At} {W w : World} {T : TypeId} {Z X Y : List Value} {L : Array Bool} {a : Act}
theorem start (m : Nat) (f : Tmp → Value) : J n W T Z X Y (Array.replicate m false) f W.drew := by
  have h : ∀ i : Nat, (Array.replicate m false).getD i false = false := by
    intro i
    by_cases hi : i < m <;> simp [hi]
  refine ⟨below_drew W, ?_, ?_, ?_⟩ <;> intro e <;> rw [h] at e <;> cases e
theorem go {k d : Nat} {v : Value} (h : J n W T Z X Y L (slot a) w) (k1 : k ≠ n.i1) (k2 : k ≠ n.i2) (k3 : k ≠ n.s1) (k4 : k ≠ n.s2) (e1 : d ≠ n.d1) (e2 : d ≠ n.d2) : J n W T Z X Y (L.setIfInBounds k true) (slot (a.put (some d) v)) w := by
  unfold J
  simp only [Rel.set_ne k1, Rel.set_ne k2, Rel.set_ne k3, Rel.set_ne k4, Rel.slot_put_ne e1, Rel.slot_put_ne e2]
  exact h
theorem mk1 (h : J n W T Z X Y L (slot a) w) (k2 : n.i1 ≠ n.i2) (k3 : n.i1 ≠ n.s1) (k4 : n.i1 ≠ n.s2) (e2 : n.d1 ≠ n.d2) (ht : n.d1 < a.tmps.size) (hs : L.getD n.s1 false = false) :
    J n W T Z X Y (L.setIfInBounds n.i1 true) (slot (a.put (some n.d1) (.pointer (some ⟨w.heap.size, 0, none⟩)))) (w.alloc (.cells Z.toArray T)) := by
  obtain ⟨h1, h2, h3, h4⟩ := h
  unfold J
  simp only [Rel.set_ne k2, Rel.set_ne k3, Rel.set_ne k4, Rel.slot_put_ne e2, Rel.slot_put ht, hs]
  refine ⟨h1.trans ((below_alloc w _).mono h1.size), fun _ => ⟨w.heap.size, rfl, h1.size, Arr.blk_new w _ _ Z rfl⟩, fun hi => ?_, fun _ hi e => ?_⟩
  · obtain ⟨B, e, hb, hk⟩ := h3 hi
    exact ⟨B, e, hb, Arr.blk_alloc hk _⟩
  · obtain ⟨B, e', hb, hk⟩ := h3 hi
    have := Arr.blk_lt hk
    rw [e'] at e
    injection e with e
    injection e with e
    injection e with e
    omega
theorem mk2 (h : J n W T Z X Y L (slot a) w) (k2 : n.i2 ≠ n.i1) (k3 : n.i2 ≠ n.s1) (k4 : n.i2 ≠ n.s2) (e2 : n.d2 ≠ n.d1) (ht : n.d2 < a.tmps.size) (hs : L.getD n.s2 false = false) :
    J n W T Z X Y (L.setIfInBounds n.i2 true) (slot (a.put (some n.d2) (.pointer (some ⟨w.heap.size, 0, none⟩)))) (w.alloc (.cells Z.toArray T)) := by
  obtain ⟨h1, h2, h3, h4⟩ := h
  unfold J
  simp only [Rel.set_ne k2, Rel.set_ne k3, Rel.set_ne k4, Rel.slot_put_ne e2, Rel.slot_put ht, hs]
  refine ⟨h1.trans ((below_alloc w _).mono h1.size), fun hi => ?_, fun _ => ⟨w.heap.size, rfl, h1.size, Arr.blk_new w _ _ Z rfl⟩, fun hi _ e => ?_⟩
  · obtain ⟨B, e, hb, hk⟩ := h2 hi
    exact ⟨B, e, hb, Arr.blk_alloc hk _⟩
  · obtain ⟨B, e', hb, hk⟩ := h2 hi
    have := Arr.blk_lt hk
    rw [e'] at e
    injection e with e
    injection e with e
    injection e with e
    omega
theorem ptr_ne {B C : Nat} (h : Value.pointer (some ⟨B, 0, none⟩) ≠ .pointer (some ⟨C, 0, none⟩)) : B ≠ C := fun e => h (by rw [e])
theorem st1 {m : Nat} (h : J n W T Z X Y L (slot a) w) (k1 : n.s1 ≠ n.i1) (k2 : n.s1 ≠ n.i2) (k3 : n.s1 ≠ n.s2) (hi : L.getD n.i1 false = true) (hs : L.getD n.s1 false = false) (hm : L.size = m) (hsm : n.s1 < m) :
    ∃ B, slot a n.d1 = .pointer (some ⟨B, 0, none⟩) ∧ Arr.Blk w B T Z ∧ J n W T Z X Y (L.setIfInBounds n.s1 true) (slot a) (w.setRow B X.toArray) := by
  obtain ⟨h1, h2, h3, h4⟩ := h
  obtain ⟨B, e, hb, hk⟩ := h2 hi
  rw [hs] at hk
  refine ⟨B, e, hk, ?_⟩
  unfold J
  simp only [Rel.set_ne k1, Rel.set_ne k2, Rel.set_ne k3, Rel.set_eq hm hsm]
  refine ⟨Arr.below_row h1 hb _, fun _ => ⟨B, e, hb, Arr.blk_row hk X⟩, fun h5 => ?_, h4⟩
  obtain ⟨C, e2, hc, hk2⟩ := h3 h5
  have hne := h4 hi h5
  rw [e, e2] at hne
  exact ⟨C, e2, hc, Arr.blk_row_far hk2 (fun e => ptr_ne hne e.symm) _⟩
theorem st2 {m : Nat} (h : J n W T Z X Y L (slot a) w) (k1 : n.s2 ≠ n.i1) (k2 : n.s2 ≠ n.i2) (k3 : n.s2 ≠ n.s1) (hi : L.getD n.i2 false = true) (hs : L.getD n.s2 false = false) (hm : L.size = m) (hsm : n.s2 < m) :
    ∃ B, slot a n.d2 = .pointer (some ⟨B, 0, none⟩) ∧ Arr.Blk w B T Z ∧ J n W T Z X Y (L.setIfInBounds n.s2 true) (slot a) (w.setRow B Y.toArray) := by
  obtain ⟨h1, h2, h3, h4⟩ := h
  obtain ⟨B, e, hb, hk⟩ := h3 hi
  rw [hs] at hk
  refine ⟨B, e, hk, ?_⟩
  unfold J
  simp only [Rel.set_ne k1, Rel.set_ne k2, Rel.set_ne k3, Rel.set_eq hm hsm]
  refine ⟨Arr.below_row h1 hb _, fun h5 => ?_, fun _ => ⟨B, e, hb, Arr.blk_row hk Y⟩, h4⟩
  obtain ⟨C, e2, hc, hk2⟩ := h2 h5
  have hne := h4 h5 hi
  rw [e, e2] at hne
  exact ⟨C, e2, hc, Arr.blk_row_far hk2 (ptr_ne hne) _⟩
theorem fin {m : Nat} {f : Tmp → Value} (h : J n W T Z X Y (Array.replicate m true) f w) (h1 : n.i1 < m) (h2 : n.i2 < m) (h3 : n.s1 < m) (h4 : n.s2 < m) : ∃ B C, f n.d1 = .pointer (some ⟨B, 0, none⟩) ∧ f n.d2 = .pointer (some ⟨C, 0, none⟩) ∧ B ≠ C ∧ Arr.Blk w B T X ∧ Arr.Blk w C T Y ∧ Below W.heap.size W w := by
  have hg : ∀ i, i < m → (Array.replicate m true).getD i false = true := fun i hi => by simp [hi]
  obtain ⟨g1, g2, g3, g4⟩ := h
  obtain ⟨B, e, hb, hk⟩ := g2 (hg _ h1)
  obtain ⟨C, e2, hc, hk2⟩ := g3 (hg _ h2)
  have hne := g4 (hg _ h1) (hg _ h2)
  rw [hg _ h3] at hk
  rw [hg _ h4] at hk2
  rw [e, e2] at hne
  exact ⟨B, C, e, e2, ptr_ne hne, hk, hk2, g1⟩
end Go.Proofs.YtjcndgopijpibaaGreat.BoxTwo
