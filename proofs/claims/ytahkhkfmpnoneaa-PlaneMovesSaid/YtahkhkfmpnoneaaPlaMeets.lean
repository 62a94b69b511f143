/- Plane: Area, Meets. -/
import Derived.Test.YtahkhkfmpnoneaaPlaFar
import Derived.Lib.QuietBelow
namespace Go.Proofs.Ytahkhkfmpnoneaa.Pla
open Go.RowKit
open Go.Sort

theorem area_no {t n l m : Int} (h : goodB t n l m = false) : (0 : Int) = areaN t n l m := by unfold areaN; rw [h]; rfl
theorem area_yes {t n l m : Int} (h : goodB t n l m = true) : l * m = areaN t n l m := by unfold areaN; rw [if_pos h]

theorem toInt_val (n : Int) (h : n.natAbs < 9007199254740992) : floatToIntVal .f64 (Flo.near n) .i64 = some n := by
  unfold floatToIntVal
  rw [show (FloatKind.f64.decode (Flo.near n)).toInt .zero = some n from Flo.toInt_near n h]
  simp only
  rw [if_pos]
  constructor
  · show (-9223372036854775808 : Int) ≤ n; omega
  · show n ≤ (9223372036854775807 : Int); omega

set_option maxHeartbeats 400000 in
theorem area_any (t n l m : Int) (w : World) (ht : Wide t) (hn : Wide n) (hl : Wide l) (hm : Wide m) :
    Calls Try.prog 11 #[.agg #[.int .i64 t, .int .i64 n, .int .i64 l, .int .i64 m]] w fun e w' => e = .returned (.int .i64 (areaN t n l m)) ∧ Below w.heap.size w w' := by
  have hg := good_any t n l m
  cases h1 : goodB t n l m with
  | false =>
    have H1 := Lib.hid (area_no h1)
    rw [h1] at hg
    clear h1
    go_enter Try.func11, Try.ntmps11
    go_wp2_with fail
    refine (hg _ ht hn hl hm).mono ?_
    rintro e w1 ⟨rfl, hb⟩
    go_wp2
    go_ret
    exact ⟨ret_int H1.out, ((Below.refl _ _).alloc (Nat.le_refl _) _).trans (hb.mono (by simp))⟩
  | true =>
    have H1 := Lib.hid (area_yes h1)
    have hr := goodB_iff.1 h1
    have ha := area_bound hr.2.2.1 hr.2.2.2.1 hr.2.2.2.2.2.2.1 hr.2.2.2.2.2.2.2.1
    have hmul := fun w => run_float_arith (P := Try.prog) w .mul 40 .f64 _ _ _ (Flo.mul_near l m (by omega) (by omega) (by omega) (by omega) (by omega))
    have hcv := fun w => run_convert_float_int (P := Try.prog) w 40 3 .f64 .i64 _ _ (by kernel_rfl) (by kernel_rfl) (toInt_val (l * m) (by omega))
    rw [h1] at hg
    clear h1 hr ha
    go_enter Try.func11, Try.ntmps11
    go_wp2_with fail
    refine (hg _ ht hn hl hm).mono ?_
    rintro e w1 ⟨rfl, hb⟩
    obtain ⟨hc, hf⟩ := bcell hb
    have hz : w.heap.size < w1.heap.size := by have := hb.size; simp at this; omega
    have HB := Lib.hid hb
    clear hb
    go_wp2_with fail
    refine (size_any _ _ _ _ _).mono ?_
    rintro e w2 ⟨rfl, hb2⟩
    go_wp2
    go_ret
    exact ⟨ret_int H1.out, (((Below.refl _ _).alloc (Nat.le_refl _) _).trans (HB.out.mono (by simp))).trans (hb2.mono (by omega))⟩

theorem ahead_near (a b c d : Int) (w : World) (x : Bool) (h1 : Small a) (h2 : Small b) (h3 : c.natAbs < 9007199254740992) (h4 : d.natAbs < 9007199254740992) (hx : decide (a < c ∧ b < d) = x) :
    Calls Try.prog 25 #[.complex .f64 (Flo.near a) (Flo.near b), .complex .f64 (Flo.near c) (Flo.near d)] w fun e w' => e = .returned (.bool x) ∧ Below w.heap.size w w' := by
  unfold Small at h1 h2
  have h := ahead_any (Flo.near a) (Flo.near b) (Flo.near c) (Flo.near d) w
  rw [ltF_near (by omega) (by omega), ltF_near (by omega) (by omega)] at h
  rw [← hx, show decide (a < c ∧ b < d) = (decide (a < c) && decide (b < d)) by by_cases a < c <;> by_cases b < d <;> simp [*]]
  exact h.mono fun e w' ⟨h1, h2⟩ => ⟨h1, h2 ▸ Below.refl _ _⟩

set_option maxHeartbeats 1000000 in
theorem meets_any (t n l m t' n' l' m' : Int) (w : World) (ht : Wide t) (hn : Wide n) (hl : Wide l) (hm : Wide m) (ht' : Wide t') (hn' : Wide n') (hl' : Wide l') (hm' : Wide m') :
    Calls Try.prog 13 #[.agg #[.int .i64 t, .int .i64 n, .int .i64 l, .int .i64 m], .agg #[.int .i64 t', .int .i64 n', .int .i64 l', .int .i64 m']] w fun e w' => e = .returned (.bool (meetsB t n l m t' n' l' m')) ∧ Below w.heap.size w w' := by
  have W0 : ∀ W : World, W = (w.alloc (.cells #[.int .i64 t, .int .i64 n, .int .i64 l, .int .i64 m] 23)).alloc (.cells #[.int .i64 t', .int .i64 n', .int .i64 l', .int .i64 m'] 23) → Below w.heap.size w W ∧
      (∀ d os, (grow (redrawn W d) os).cell? ⟨w.heap.size, 0, none⟩ = some (.int .i64 t)) ∧ (∀ d os, (grow (redrawn W d) os).cell? ⟨w.heap.size, 1, none⟩ = some (.int .i64 n)) ∧ (∀ d os, (grow (redrawn W d) os).cell? ⟨w.heap.size, 2, none⟩ = some (.int .i64 l)) ∧ (∀ d os, (grow (redrawn W d) os).cell? ⟨w.heap.size, 3, none⟩ = some (.int .i64 m)) ∧
      (∀ d os, (grow (redrawn W d) os).cell? ⟨w.heap.size + 1, 0, none⟩ = some (.int .i64 t')) ∧ (∀ d os, (grow (redrawn W d) os).cell? ⟨w.heap.size + 1, 1, none⟩ = some (.int .i64 n')) ∧ (∀ d os, (grow (redrawn W d) os).cell? ⟨w.heap.size + 1, 2, none⟩ = some (.int .i64 l')) ∧ (∀ d os, (grow (redrawn W d) os).cell? ⟨w.heap.size + 1, 3, none⟩ = some (.int .i64 m')) := by
    rintro W rfl
    refine ⟨((Below.refl _ _).alloc (Nat.le_refl _) _).alloc (by simp) _, ?_, ?_, ?_, ?_, ?_, ?_, ?_, ?_⟩ <;> (intro d os; refine cell_regrown ?_ d os; simp [go_sem])
  obtain ⟨W, hW⟩ : ∃ W : World, W = (w.alloc (.cells #[.int .i64 t, .int .i64 n, .int .i64 l, .int .i64 m] 23)).alloc (.cells #[.int .i64 t', .int .i64 n', .int .i64 l', .int .i64 m'] 23) := ⟨_, rfl⟩
  obtain ⟨hB, k0, k1, k2, k3, k4, k5, k6, k7⟩ := W0 W hW
  clear W0
  have HW := Lib.hid hW
  have HB := Lib.hid hB
  clear hW hB
  have cGa := fun d os => Calls.regrown_of (w := W) (d := d) (os := os) (good_any t n l m _ ht hn hl hm)
  have cGb := fun d os => Calls.regrown_of (w := W) (d := d) (os := os) (good_any t' n' l' m' _ ht' hn' hl' hm')
  cases h1 : goodB t n l m with
  | false =>
    have H1 := Lib.hid (show false = meetsB t n l m t' n' l' m' by unfold meetsB; rw [h1]; rfl)
    rw [h1] at cGa
    clear h1
    go_enter Try.func13, Try.ntmps13
    go_wp2
    rw [← HW.out]
    refine wp_region_quiet_below (by kernel_rfl) (by kernel_rfl) ?_
    repeat (quiet_step (first | (with_reducible exact cGa _ _)))
    refine wpQuiet_nil ?_
    intro _ hw'
    obtain ⟨⟨dq, osq⟩, hw''⟩ := hw'
    subst hw''
    go_wp2
    go_ret
    exact ⟨ret_bool H1.out, below_keep HB.out (below_regrown W dq osq)⟩
  | true =>
    cases h2 : goodB t' n' l' m' with
    | false =>
      have H1 := Lib.hid (show false = meetsB t n l m t' n' l' m' by unfold meetsB; rw [h1, h2]; rfl)
      rw [h1] at cGa
      rw [h2] at cGb
      clear h1 h2
      go_enter Try.func13, Try.ntmps13
      go_wp2
      rw [← HW.out]
      refine wp_region_quiet_below (by kernel_rfl) (by kernel_rfl) ?_
      repeat (quiet_step (first | (with_reducible exact cGa _ _) | (with_reducible exact cGb _ _)))
      refine wpQuiet_nil ?_
      intro _ hw'
      obtain ⟨⟨dq, osq⟩, hw''⟩ := hw'
      subst hw''
      go_wp2
      go_ret
      exact ⟨ret_bool H1.out, below_keep HB.out (below_regrown W dq osq)⟩
    | true =>
      have r1 := goodB_iff.1 h1
      have r2 := goodB_iff.1 h2
      have s1 : Small t := by unfold Small; omega
      have s2 : Small n := by unfold Small; omega
      have s3 : Small l := by unfold Small; omega
      have s4 : Small m := by unfold Small; omega
      have s5 : Small t' := by unfold Small; omega
      have s6 : Small n' := by unfold Small; omega
      have s7 : Small l' := by unfold Small; omega
      have s8 : Small m' := by unfold Small; omega
      have H0 : meetsB t n l m t' n' l' m' = crossB t n l m t' n' l' m' := by unfold meetsB; rw [h1, h2]; rfl
      have cCa := fun d os => Calls.regrown_of (w := W) (d := d) (os := os) (corner_any t n l m _)
      have cCb := fun d os => Calls.regrown_of (w := W) (d := d) (os := os) (corner_any t' n' l' m' _)
      have cFa := fun d os => Calls.regrown_of (w := W) (d := d) (os := os) (far_any t n l m _ s1 s2 s3 s4)
      have cFb := fun d os => Calls.regrown_of (w := W) (d := d) (os := os) (far_any t' n' l' m' _ s5 s6 s7 s8)
      have cAa := fun d os => Calls.regrown_of (w := W) (d := d) (os := os) (ahead_near t n (t' + l') (n' + m') _ _ s1 s2 (by omega) (by omega) rfl)
      have cAb := fun d os => Calls.regrown_of (w := W) (d := d) (os := os) (ahead_near t' n' (t + l) (n + m) _ _ s5 s6 (by omega) (by omega) rfl)
      rw [h1] at cGa
      rw [h2] at cGb
      clear h1 h2 r1 r2 s1 s2 s3 s4 s5 s6 s7 s8
      cases h3 : decide (t < t' + l' ∧ n < n' + m') with
      | false =>
        have H1 := Lib.hid (show false = meetsB t n l m t' n' l' m' by
          rw [H0, eq_comm, Bool.eq_false_iff]; intro h; have := crossB_iff.1 h; rw [decide_eq_false_iff_not] at h3; omega)
        rw [h3] at cAa
        clear h3 H0
        go_enter Try.func13, Try.ntmps13
        go_wp2
        rw [← HW.out]
        refine wp_region_quiet_below (by kernel_rfl) (by kernel_rfl) ?_
        repeat (quiet_step (first | (with_reducible exact cGa _ _) | (with_reducible exact cGb _ _) | (with_reducible exact cCa _ _) | (with_reducible exact cFb _ _) | (with_reducible exact cAa _ _)))
        refine wpQuiet_nil ?_
        intro _ hw'
        obtain ⟨⟨dq, osq⟩, hw''⟩ := hw'
        subst hw''
        go_wp2
        go_ret
        exact ⟨ret_bool H1.out, below_keep HB.out (below_regrown W dq osq)⟩
      | true =>
        cases h4 : decide (t' < t + l ∧ n' < n + m) with
        | false =>
          have H1 := Lib.hid (show false = meetsB t n l m t' n' l' m' by
            rw [H0, eq_comm, Bool.eq_false_iff]; intro h; have := crossB_iff.1 h; rw [decide_eq_false_iff_not] at h4; omega)
          rw [h3] at cAa
          rw [h4] at cAb
          clear h3 h4 H0
          go_enter Try.func13, Try.ntmps13
          go_wp2
          rw [← HW.out]
          refine wp_region_quiet_below (by kernel_rfl) (by kernel_rfl) ?_
          repeat (quiet_step (first | (with_reducible exact cGa _ _) | (with_reducible exact cGb _ _) | (with_reducible exact cCa _ _) | (with_reducible exact cFb _ _) | (with_reducible exact cAa _ _) | (with_reducible exact cCb _ _) | (with_reducible exact cFa _ _) | (with_reducible exact cAb _ _)))
          refine wpQuiet_nil ?_
          intro _ hw'
          obtain ⟨⟨dq, osq⟩, hw''⟩ := hw'
          subst hw''
          go_wp2
          go_ret
          exact ⟨ret_bool H1.out, below_keep HB.out (below_regrown W dq osq)⟩
        | true =>
          have H1 := Lib.hid (show true = meetsB t n l m t' n' l' m' by
            rw [H0, eq_comm, crossB_iff]; rw [decide_eq_true_iff] at h3 h4; omega)
          rw [h3] at cAa
          rw [h4] at cAb
          clear h3 h4 H0
          go_enter Try.func13, Try.ntmps13
          go_wp2
          rw [← HW.out]
          refine wp_region_quiet_below (by kernel_rfl) (by kernel_rfl) ?_
          repeat (quiet_step (first | (with_reducible exact cGa _ _) | (with_reducible exact cGb _ _) | (with_reducible exact cCa _ _) | (with_reducible exact cFb _ _) | (with_reducible exact cAa _ _) | (with_reducible exact cCb _ _) | (with_reducible exact cFa _ _) | (with_reducible exact cAb _ _)))
          refine wpQuiet_nil ?_
          intro _ hw'
          obtain ⟨⟨dq, osq⟩, hw''⟩ := hw'
          subst hw''
          go_wp2
          go_ret
          exact ⟨ret_bool H1.out, below_keep HB.out (below_regrown W dq osq)⟩

end Go.Proofs.Ytahkhkfmpnoneaa.Pla
