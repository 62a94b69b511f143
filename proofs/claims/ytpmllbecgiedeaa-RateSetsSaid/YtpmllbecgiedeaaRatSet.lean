/- Rate: RateSets, over any rates that do as they should. -/
import Derived.Test.YtpmllbecgiedeaaRatLaw
namespace Go.Proofs.Ytpmllbecgiedeaa.Rte
set_option maxRecDepth 100000
open Go.RowKit
open Go.Sort
open Kit
open Tre
set_option linter.unusedVariables false
variable {w w' : World}

abbrev nSets : Nest.At := ⟨0, 19, 2, 21, 5, 24, 1004, 2004, 1, 20, 4, 23, 6, 10, 24⟩
theorem run_bs0_rate (w : World) : (Instr.buildSlice 22 0 #[]).run Try.prog w = .ok (.slice (some ⟨w.heap.size, 0, none⟩) 0 0) (w.alloc (.cells #[] 33)) := by
  simp [go_sem]
theorem run_ld_rate {w : World} {b : Nat} {x y z : Int} (h0 : w.cell? ⟨b, 0, none⟩ = some (.int .i64 x)) (h1 : w.cell? ⟨b, 1, none⟩ = some (.int .i64 y)) (h2 : w.cell? ⟨b, 2, none⟩ = some (.int .i64 z)) : (Instr.loadAt 33 (.pointer (some ⟨b, 0, none⟩))).run Try.prog w = .ok (.agg #[.int .i64 x, .int .i64 y, .int .i64 z]) w := by
  simp [go_sem, h0, h1, h2]
theorem run_bs_rate (x y z : Int) (w : World) : (Instr.buildSlice 22 1 #[(0, .agg #[.int .i64 x, .int .i64 y, .int .i64 z])]).run Try.prog w = .ok (.slice (some ⟨w.heap.size, 0, none⟩) 1 1) (w.alloc (.cells #[.int .i64 x, .int .i64 y, .int .i64 z] 33)) := by
  simp [go_sem]
theorem price_congr {l k : List Rt} {q t : Int} (h : best q t l = best q t k) : priceN l q t = priceN k q t ∧ priceE l q t = priceE k q t := by
  unfold priceN priceE
  rw [h]; exact ⟨rfl, rfl⟩
set_option maxHeartbeats 8000000 in
theorem sets_any (hP : Prog) (W : World) (aa : Option Addr) (n cc : Nat) (l : List Rt) (hA : Rates W aa n cc l) (hok : ∀ x ∈ l, x.ok) (rq rf rp : Int) (hr : Rt.ok ⟨rq, rf, rp⟩) (q t : Int) (hq : inI q) (ht : inI t) :
    Calls Try.prog 4 #[.slice aa n cc, .agg #[.int .i64 rq, .int .i64 rf, .int .i64 rp], .int .i64 q, .int .i64 t] W fun e W' => e = .returned (.bool true) ∧ Below W.heap.size W W' := by
  obtain ⟨m, X, hm, hX, hAX, hokX, hm40⟩ := cut_rates hA hok
  obtain ⟨w1, hw1⟩ : ∃ x, x = W.alloc (.cells #[.int .i64 rq, .int .i64 rf, .int .i64 rp] 33) := ⟨_, rfl⟩
  have hb1 : Below W.heap.size W w1 := by rw [hw1]; exact below_alloc _ _
  have hbx := boxed_rate W rq rf rp
  rw [← hw1] at hbx
  have HFew := Lib.hid (few_any aa n cc m hA.cap hA.max hm w1)
  have HX := Lib.hid (And.intro (lst_keep encR_len hAX hb1) hAX.len)
  have HB1 := Lib.hid hb1
  have HBx := Lib.hid hbx
  have hXl := hAX.len
  have HPt := Lib.hid (fun (w : World) (hb : Below w1.heap.size w1 w) (v : Value) hv => show Nest.Part encR 3 w v (.slice aa m cc) X by
    have := Nest.part_old (c := cc) encR_len HX.out.1.row (fun e => by rw [hXl]; exact HX.out.1.nil e) (fun q e hne => by
      subst e
      rcases HX.out.1.row with h | ⟨b, o, e2, h2⟩
      · exact absurd h hne
      · injection e2 with e2
        subst e2
        have hl : 0 < X.length := List.length_pos_iff.2 hne
        have h3 := h2 0 hl 0 (by omega)
        rw [List.getElem?_eq_getElem (by rw [encR_len]; omega)] at h3
        exact World.block_lt_of_cell? w1 _ h3) hb v hv
    rwa [hXl] at this)
  have HD := Lib.hid (show (([] : List Rt) ++ []).length + X.length ≤ maxLen ∧ ((([] : List Rt) ++ []).length + X.length) * 24 ≤ 140737488355328 ∧ (([] : List Rt) ++ [] ++ X).length + ([⟨rq, rf, rp⟩] : List Rt).length ≤ maxLen ∧ ((([] : List Rt) ++ [] ++ X).length + ([⟨rq, rf, rp⟩] : List Rt).length) * 24 ≤ 140737488355328 by
    unfold maxLen
    simp only [List.nil_append, List.length_cons, List.length_nil]
    omega)
  have H1 := Lib.hid (fun w h => hP.price w aa m cc X q t h hokX (by omega) hq ht)
  have hokM : ∀ x ∈ X ++ [⟨rq, rf, rp⟩], x.ok := fun x hx => by
    rcases List.mem_append.1 hx with hx | hx
    · exact hokX x hx
    · rw [List.mem_singleton] at hx
      rw [hx]; exact hr
  have H2 := Lib.hid (fun w a2 c2 h => hP.price w a2 (m + 1) c2 (X ++ [⟨rq, rf, rp⟩]) q t h hokM (by omega) hq ht)
  have HAw := Lib.hid (fun w => awake_any hP w)
  have HSet := Lib.hid (And.intro (fun h => price_congr ((best_snoc q t X ⟨rq, rf, rp⟩).trans (better_unfit h))) (And.intro (fun (h1 : rq = q) (h2 : rf ≤ t) h3 => price_congr ((best_sets (l := X) (r := ⟨rq, rf, rp⟩) h1 h2).1 h3)) (fun (h1 : rq = q) (h2 : rf ≤ t) h3 => (best_sets (l := X) (r := ⟨rq, rf, rp⟩) h1 h2).2 h3)))
  have HPv := Lib.hid (show best q t (X ++ [⟨rq, rf, rp⟩]) = some ⟨rq, rf, rp⟩ → priceN (X ++ [⟨rq, rf, rp⟩]) q t = rp ∧ priceE (X ++ [⟨rq, rf, rp⟩]) q t = 0 from fun h => by unfold priceN priceE; rw [h]; exact ⟨rfl, rfl⟩)
  have HW := Lib.hid hw1
  generalize priceN X q t = pn at *
  generalize priceE X q t = pe at *
  generalize priceN (X ++ [⟨rq, rf, rp⟩]) q t = pn2 at *
  generalize priceE (X ++ [⟨rq, rf, rp⟩]) q t = pe2 at *
  clear hm hX hAX hokX hA hok hr hq ht hP hokM hb1 hbx hXl hw1
  go_enter Try.func4, Try.ntmps4
  go_wp2_with fail
  rw [← HW.out]
  refine HFew.out.mono ?_
  rintro e w2 ⟨rfl, rfl⟩
  go_wp2_with fail
  refine Rel.wp_region_see (G := Rel.Gt) (Rel.tab [Rel.Kd.any, Rel.Kd.any, Rel.Kd.any, .is (.agg #[.int .i64 rq, .int .i64 rf, .int .i64 rp]), Rel.Kd.any, Rel.Kd.any, Rel.Kd.any]) (Nest.J nSets encR 3 33 w1 (.slice none 0 0) undef [] [] X [⟨rq, rf, rp⟩]) (by kernel_rfl) (by kernel_rfl) (by kernel_rfl) (by kernel_rfl) (fun w => trivial) (Nest.start _ _ _ rfl (owns_nil _ _ _) (below_drew _)) ?_ ?_
  · refine ⟨?_, ?_, ?_, ?_, ?_, ?_, ?_, trivial⟩
    · intro L a w c j
      refine .inl ⟨Rel.wanted_free (by kernel_rfl) _, ?_⟩
      exact Chn.wp_bs0 _ rfl (run_bs0_rate w) ⟨_, rfl, trivial, trivial, Nest.emp encR_len j (by kernel_rfl) (by kernel_rfl) (by rw [c.room]; exact of_decide_eq_true (by kernel_rfl)) (by rw [c.size]; exact of_decide_eq_true (by kernel_rfl)) (Rel.free_no c.free) (c.later 2 (by kernel_rfl)) (c.later2 5 2 (by kernel_rfl) (c.later 2 (by kernel_rfl))) (c.later2 6 5 (by kernel_rfl) (c.later2 5 2 (by kernel_rfl) (c.later 2 (by kernel_rfl))))⟩
    · intro L a w c j
      refine .inl ⟨Rel.wanted_free (by kernel_rfl) _, ?_⟩
      refine Rel.wp_mv _ rfl ?_
      rw [Rel.eval_tmp (c.old 9 (v := .slice aa m cc) (by kernel_rfl) (by kernel_rfl))]
      exact ⟨_, rfl, trivial, trivial, Nest.mk2 encR_len j (by kernel_rfl) (by kernel_rfl) (by rw [c.room]; exact of_decide_eq_true (by kernel_rfl)) (Below.refl _ _) (fun v hv => by have h := HPt.out w j.below v hv; exact h)⟩
    · intro L a w c j
      refine .inl ⟨Rel.wanted_free (by kernel_rfl) _, ?_⟩
      obtain ⟨v9, w9, hr, hj⟩ := Nest.ap2 tyR j (by kernel_rfl) (by kernel_rfl) (by rw [c.room]; exact of_decide_eq_true (by kernel_rfl)) (by rw [c.size]; exact of_decide_eq_true (by kernel_rfl)) (c.came 0 (by kernel_rfl)) (Rel.free_no c.free) (c.later 5 (by kernel_rfl)) (c.came 1 (by kernel_rfl)) (c.later2 6 5 (by kernel_rfl) (c.later 5 (by kernel_rfl))) HD.out.1 HD.out.2.1 22
      exact Chn.wp_ap _ _ _ rfl rfl rfl hr ⟨_, rfl, trivial, trivial, hj⟩
    · intro L a w c j
      refine .inl ⟨Rel.wanted_free (by kernel_rfl) _, ?_⟩
      exact Rel.wp_ld _ _ rfl (c.old 5 (v := .pointer (some ⟨W.heap.size, 0, none⟩)) (by kernel_rfl) (by kernel_rfl)) (run_ld_rate (cell_keep j.below HBx.out.1) (cell_keep j.below HBx.out.2.1) (cell_keep j.below HBx.out.2.2)) ⟨_, rfl, trivial, rfl, (Nest.go encR_len j (k := 3) (d := 22) (by kernel_rfl) (by kernel_rfl) (Below.refl _ _))⟩
    · intro L a w c j
      refine .inl ⟨Rel.wanted_free (by kernel_rfl) _, ?_⟩
      exact Chn.wp_bs1 _ _ rfl (c.get 3 22 (by kernel_rfl)) (run_bs_rate rq rf rp w) ⟨_, rfl, trivial, trivial, Nest.mk3 encR_len j (by kernel_rfl) (by kernel_rfl) (by rw [c.room]; exact of_decide_eq_true (by kernel_rfl)) (below_alloc _ _) (fun v hv => Nest.part_new encR_len w [⟨rq, rf, rp⟩] _ rfl 1 v hv)⟩
    · intro L a w c j
      refine .inl ⟨Rel.wanted_free (by kernel_rfl) _, ?_⟩
      obtain ⟨v9, w9, hr, hj⟩ := Nest.ap3 tyR j (by kernel_rfl) (by kernel_rfl) (by rw [c.room]; exact of_decide_eq_true (by kernel_rfl)) (by rw [c.size]; exact of_decide_eq_true (by kernel_rfl)) (c.via 2 0 (by kernel_rfl) (c.came 2 (by kernel_rfl))) (c.came 2 (by kernel_rfl)) (Rel.free_no c.free) (c.came 4 (by kernel_rfl)) (c.later 6 (by kernel_rfl)) HD.out.2.2.1 HD.out.2.2.2 22
      exact Chn.wp_ap _ _ _ rfl rfl rfl hr ⟨_, rfl, trivial, trivial, hj⟩
    · intro L a w c j
      refine .inl ⟨Rel.wanted_free (by kernel_rfl) _, ?_⟩
      exact Rel.wp_as _ rfl ⟨_, rfl, trivial, trivial, Nest.asg j (by kernel_rfl) (by kernel_rfl) (by rw [c.room]; exact of_decide_eq_true (by kernel_rfl)) (by rw [c.size]; exact of_decide_eq_true (by kernel_rfl))⟩
  intro a w9 hbase hroom hdef hJ hV
  have hE := Nest.end3 hJ (of_decide_eq_true (by kernel_rfl)) (of_decide_eq_true (by kernel_rfl)) rfl
  change Below w1.heap.size w1 w9 ∧ Owns encR 3 33 w9 w1.heap.size (Rel.slot a 10) ([] ++ [] ++ X ++ [⟨rq, rf, rp⟩]) at hE
  clear hJ
  have k10 : (Rel.Kd.any : Rel.Kd (Rel.Gt)).p w9 (Rel.slot a 10) := hV 6 _ _ rfl rfl
  rw [Chn.act_puts [19, 20, 21, 22, 23, 24, 10] hbase hroom hdef (by kernel_rfl)]
  clear hbase hroom hdef hV
  simp only [List.foldl_cons, List.foldl_nil]
  generalize Rel.slot a 19 = u19 at *
  generalize Rel.slot a 20 = u20 at *
  generalize Rel.slot a 21 = u21 at *
  generalize Rel.slot a 22 = u22 at *
  generalize Rel.slot a 23 = u23 at *
  generalize Rel.slot a 24 = u24 at *
  generalize Rel.slot a 10 = u10 at *
  simp only [Act.put, List.setIfInBounds_toArray, List.set_cons_succ, List.set_cons_zero]
  obtain ⟨x10, c10, hv10, hc10, hm10, hn10, hrow10⟩ := owns_row encR_len hE.2
  have hml : (([] : List Rt) ++ [] ++ X ++ ([⟨rq, rf, rp⟩] : List Rt)).length = m + 1 := by simp [HX.out.2]
  rw [hml] at hv10 hc10
  subst hv10
  have HM := Lib.hid (And.intro hE.1 (show Rates w9 x10 (m + 1) c10 (X ++ [⟨rq, rf, rp⟩]) from ⟨by simp [HX.out.2], hc10, hm10, (fun e => by have := hn10 e; omega), hrow10⟩))
  clear hE hc10 hm10 hn10 hrow10 hml
  go_wp2_with fail
  refine (H1.out w9 (lst_keep encR_len HX.out.1 HM.out.1)).mono ?_
  rintro e w3 ⟨rfl, hb3⟩
  have HB3 := Lib.hid (And.intro (below_keep HM.out.1 hb3) (lst_keep encR_len HM.out.2 hb3))
  clear hb3
  go_wp2_with fail
  refine (H2.out w3 x10 c10 HB3.out.2).mono ?_
  rintro e w4 ⟨rfl, hb4⟩
  have HB4 := Lib.hid (below_keep HB3.out.1 hb4)
  have HBW := Lib.hid (HB1.out.trans ((below_keep HB3.out.1 hb4).mono HB1.out.size))
  have k0 := cell_keep HB4.out HBx.out.1
  have k1 := cell_keep HB4.out HBx.out.2.1
  have k2 := cell_keep HB4.out HBx.out.2.2
  clear hb4
  by_cases hfit : rq = q ∧ rf ≤ t
  · obtain ⟨s1, s2⟩ := hfit
    subst s1
    have s3 : ¬ t < rf := by omega
    have s4 : (rq == rq) = true := beq_self_eq_true _
    go_wp2_with fail
    go_loopw [15, 16] (fun lv i wr => ∃ (j : Nat) (bb : Bool), j ≤ m ∧ i = .int .i64 (j : Nat) ∧ lv = .bool bb ∧ Hid (bb = (X.take j).any fun x => decide (x.qos = rq ∧ rf < x.from' ∧ x.from' ≤ t)) ∧ Below w4.heap.size w4 wr) (fun _ i _ => m - (intOf i).toNat)
    case atStart => exact ⟨0, false, Nat.zero_le _, rfl, rfl, Lib.hid (by simp), Below.refl _ _⟩
    case round =>
      obtain ⟨j, bb, hj, rfl, rfl, hbb, hbj⟩ := hrel
      have HBj := Lib.hid (And.intro hbj (below_keep HB4.out hbj))
      have g1 := cell_keep hbj k1
      have g2 := cell_keep hbj k2
      clear hbj
      by_cases hlt : j < m
      · have hjX : j < X.length := by rw [HX.out.2]; exact hlt
        obtain ⟨b, o, rfl⟩ := lst_at HX.out.1 (by omega)
        obtain ⟨p0, p1, -⟩ := rate_cells (lst_keep encR_len HX.out.1 HBj.out.2) hjX
        have hst : (X.take (j + 1)).any (fun x => decide (x.qos = rq ∧ rf < x.from' ∧ x.from' ≤ t)) = (bb || decide (X[j].qos = rq ∧ rf < X[j].from' ∧ X[j].from' ≤ t)) := by
          rw [List.take_succ_eq_append_getElem hjX, List.any_append, hbb.out]; simp
        generalize X[j] = x at *
        obtain ⟨x0, x1, x2⟩ := x
        simp only at p0 p1 hst
        have HSt := Lib.hid hst
        clear hst hbb
        cases bb with
        | true =>
          have HR := Lib.hid (show true = (X.take (j + 1)).any (fun x => decide (x.qos = rq ∧ rf < x.from' ∧ x.from' ≤ t)) by rw [HSt.out, Bool.true_or])
          go_wp2_with fail
          go_quiet (fail)
          go_wp2_with fail
          go_roundw
          case rel => exact ⟨j + 1, true, by omega, by go_num, rfl, HR, below_keep HBj.out.1 (below_drewN' _ _)⟩
          case measure => simp [intOf]; omega
        | false =>
          have hor : (x0 = rq ∧ rf < x1 ∧ x1 ≤ t) ∨ (x0 = rq ∧ rf < x1 ∧ ¬ x1 ≤ t) ∨ (x0 = rq ∧ ¬ rf < x1) ∨ (¬ x0 = rq) := by omega
          rcases hor with ⟨u1, u2, u3⟩ | ⟨u1, u2, u3⟩ | ⟨u1, u2⟩ | u1
          · have HR := Lib.hid (show true = (X.take (j + 1)).any (fun x => decide (x.qos = rq ∧ rf < x.from' ∧ x.from' ≤ t)) by rw [HSt.out]; simp [u1, u2, u3])
            have u4 : (x0 == rq) = true := by rw [u1]; exact beq_self_eq_true _
            have u5 : decide (rf < x1) = true := decide_eq_true u2
            have u6 : decide (x1 ≤ t) = true := decide_eq_true u3
            clear u1
            go_wp2_with fail
            go_quiet (fail)
            go_wp2_with fail
            go_roundw
            case rel => exact ⟨j + 1, true, by omega, by go_num, rfl, HR, below_keep HBj.out.1 (below_drewN' _ _)⟩
            case measure => simp [intOf]; omega
          · have HR := Lib.hid (show false = (X.take (j + 1)).any (fun x => decide (x.qos = rq ∧ rf < x.from' ∧ x.from' ≤ t)) by rw [HSt.out]; simp [u1, u2]; omega)
            have u4 : (x0 == rq) = true := by rw [u1]; exact beq_self_eq_true _
            have u5 : decide (rf < x1) = true := decide_eq_true u2
            have u6 : decide (x1 ≤ t) = false := decide_eq_false u3
            clear u1
            go_wp2_with fail
            go_quiet (fail)
            go_wp2_with fail
            go_roundw
            case rel => exact ⟨j + 1, false, by omega, by go_num, rfl, HR, below_keep HBj.out.1 (below_drewN' _ _)⟩
            case measure => simp [intOf]; omega
          · have HR := Lib.hid (show false = (X.take (j + 1)).any (fun x => decide (x.qos = rq ∧ rf < x.from' ∧ x.from' ≤ t)) by rw [HSt.out]; simp [u1, u2])
            have u4 : (x0 == rq) = true := by rw [u1]; exact beq_self_eq_true _
            have u5 : decide (rf < x1) = false := decide_eq_false u2
            clear u1
            go_wp2_with fail
            go_quiet (fail)
            go_wp2_with fail
            go_roundw
            case rel => exact ⟨j + 1, false, by omega, by go_num, rfl, HR, below_keep HBj.out.1 (below_drewN' _ _)⟩
            case measure => simp [intOf]; omega
          · have HR := Lib.hid (show false = (X.take (j + 1)).any (fun x => decide (x.qos = rq ∧ rf < x.from' ∧ x.from' ≤ t)) by rw [HSt.out]; simp [u1])
            have u4 : (x0 == rq) = false := beq_false_of_ne u1
            clear u1
            go_wp2_with fail
            go_quiet (fail)
            go_wp2_with fail
            go_roundw
            case rel => exact ⟨j + 1, false, by omega, by go_num, rfl, HR, below_keep HBj.out.1 (below_drewN' _ _)⟩
            case measure => simp [intOf]; omega
      · obtain rfl : m = j := by omega
        have hbX : bb = X.any fun x => decide (x.qos = rq ∧ rf < x.from' ∧ x.from' ≤ t) := by
          rw [hbb.out, List.take_of_length_le (by rw [HX.out.2]; exact Nat.le_refl _)]
        have HBe := Lib.hid (HBW.out.trans (HBj.out.1.mono HBW.out.size))
        clear hbb
        cases bb with
        | true =>
          obtain ⟨x, hx, hxc⟩ := List.any_eq_true.1 hbX.symm
          obtain ⟨e1, e2⟩ := HSet.out.2.1 (by simp) s2 ⟨x, hx, by simpa using hxc⟩
          subst e1 e2
          clear hbX hx hxc
          go_wp2_with fail
          refine (HAw.out wr).mono ?_
          rintro e w6 ⟨rfl, hb6⟩
          have HB6 := Lib.hid (below_keep HBe.out hb6)
          clear hb6
          go_wp2_with fail
          go_ret
          exact ⟨by first | rfl | exact ret_bool (by simp), HB6.out⟩
        | false =>
          obtain ⟨e1, e2⟩ := HPv.out (HSet.out.2.2 (by simp) s2 (fun ⟨x, hx, hc⟩ => by
            have := List.any_eq_false.1 hbX.symm x hx
            simp at this
            have h3 := this hc.1 hc.2.1
            omega))
          subst e1 e2
          clear hbX
          go_wp2_with fail
          refine (HAw.out wr).mono ?_
          rintro e w6 ⟨rfl, hb6⟩
          have HB6 := Lib.hid (below_keep HBe.out hb6)
          have g3 := cell_keep hb6 g2
          clear hb6
          go_wp2_with fail
          go_ret
          exact ⟨by first | rfl | exact ret_bool (by simp), HB6.out⟩
  · obtain ⟨e1, e2⟩ := HSet.out.1 (by
      cases hf : fitR q t ⟨rq, rf, rp⟩ with
      | false => rfl
      | true => exact absurd (fit_iff.1 hf) hfit)
    subst e1 e2
    have hor : (¬ q = rq) ∨ (q = rq ∧ t < rf) := by omega
    clear hfit
    rcases hor with s1 | ⟨s1, s2⟩
    · have s3 : (q == rq) = false := beq_false_of_ne s1
      have s5 : (q != rq) = true := by rw [bne, s3]; rfl
      have s6 : ¬ q = rq := s1
      clear s1
      go_wp2_with fail
      refine (HAw.out w4).mono ?_
      rintro e w6 ⟨rfl, hb6⟩
      have HB6 := Lib.hid (below_keep HBW.out hb6)
      clear hb6
      go_wp2_with fail
      go_ret
      exact ⟨by first | rfl | exact ret_bool (by simp), HB6.out⟩
    · subst s1
      go_wp2_with fail
      refine (HAw.out w4).mono ?_
      rintro e w6 ⟨rfl, hb6⟩
      have HB6 := Lib.hid (below_keep HBW.out hb6)
      clear hb6
      go_wp2_with fail
      go_ret
      exact ⟨by first | rfl | exact ret_bool (by simp), HB6.out⟩
end Go.Proofs.Ytpmllbecgiedeaa.Rte
