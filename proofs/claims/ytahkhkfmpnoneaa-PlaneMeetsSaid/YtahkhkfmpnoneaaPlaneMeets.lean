/- PlaneMeets answers true for any two boxes, each read afterwards as it was: plane.Good, Area and Meets answer as the document says, Meets both ways round. No condition. -/
import Derived.Test.YtahkhkfmpnoneaaRows
import Derived.WalkKit
import Derived.ProofKit
import Derived.OpenShut
import Derived.ShutString
import Derived.ChangeOld
import Derived.Below
import Derived.Test.YtahkhkfmpnoneaaOpens
import Derived.Test.YtahkhkfmpnoneaaPlaAwake
namespace Go.Proofs.Ytahkhkfmpnoneaa.planeMeets
open Go.ChangeShapes Go.WideShapes Go.ChangeAt Go.RowKit
open Go.ChangeMaps (open_string shut_string)
set_option linter.unusedVariables false

theorem own : ownKnob Try.prog.godebug = none := by kernel_rfl
theorem laidOut : laidOutB Try.prog = true := by kernel_rfl

open Pla
open Go.Sort
set_option maxHeartbeats 2000000 in
theorem walk (W : World) (c0 : Array Value) (x0 : Pla.Bx) (w0 : Pla.RBox c0.toList x0) (c1 : Array Value) (x1 : Pla.Bx) (w1 : Pla.RBox c1.toList x1) :
    Calls Try.prog 3 #[.agg c0, .agg c1] W fun e w' => e = .returned (.bool true) ∧ Below W.heap.size W w' := by
  obtain ⟨t, n, l, m⟩ := x0
  obtain ⟨t', n', l', m'⟩ := x1
  obtain ⟨h0, ⟨ht, hn, hl, hm⟩, _⟩ := w0
  obtain ⟨h1, ⟨ht', hn', hl', hm'⟩, _⟩ := w1
  obtain rfl := arr_of h0
  obtain rfl := arr_of h1
  clear h0 h1
  simp only at ht hn hl hm ht' hn' hl' hm' ⊢
  have W0 : ∀ V : World, V = (W.alloc (.cells #[.int .i64 t, .int .i64 n, .int .i64 l, .int .i64 m] 23)).alloc (.cells #[.int .i64 t', .int .i64 n', .int .i64 l', .int .i64 m'] 23) → Below W.heap.size W V ∧
      (∀ d os, (grow (redrawn V d) os).cell? ⟨W.heap.size, 0, none⟩ = some (.int .i64 t)) ∧ (∀ d os, (grow (redrawn V d) os).cell? ⟨W.heap.size, 1, none⟩ = some (.int .i64 n)) ∧ (∀ d os, (grow (redrawn V d) os).cell? ⟨W.heap.size, 2, none⟩ = some (.int .i64 l)) ∧ (∀ d os, (grow (redrawn V d) os).cell? ⟨W.heap.size, 3, none⟩ = some (.int .i64 m)) ∧
      (∀ d os, (grow (redrawn V d) os).cell? ⟨W.heap.size + 1, 0, none⟩ = some (.int .i64 t')) ∧ (∀ d os, (grow (redrawn V d) os).cell? ⟨W.heap.size + 1, 1, none⟩ = some (.int .i64 n')) ∧ (∀ d os, (grow (redrawn V d) os).cell? ⟨W.heap.size + 1, 2, none⟩ = some (.int .i64 l')) ∧ (∀ d os, (grow (redrawn V d) os).cell? ⟨W.heap.size + 1, 3, none⟩ = some (.int .i64 m')) := by
    rintro V rfl
    refine ⟨((Below.refl _ _).alloc (Nat.le_refl _) _).alloc (by simp) _, ?_, ?_, ?_, ?_, ?_, ?_, ?_, ?_⟩ <;> (intro d os; refine cell_regrown ?_ d os; simp [go_sem])
  obtain ⟨V, hV⟩ : ∃ V : World, V = (W.alloc (.cells #[.int .i64 t, .int .i64 n, .int .i64 l, .int .i64 m] 23)).alloc (.cells #[.int .i64 t', .int .i64 n', .int .i64 l', .int .i64 m'] 23) := ⟨_, rfl⟩
  obtain ⟨hB, k0, k1, k2, k3, k4, k5, k6, k7⟩ := W0 V hV
  clear W0
  have HV := Lib.hid hV
  have HB := Lib.hid hB
  clear hV hB
  have c0 := fun d os => Calls.regrown_of (w := V) (d := d) (os := os) (awake_any _)
  have c1 := fun d os => Calls.regrown_of (w := V) (d := d) (os := os) (good_any t n l m _ ht hn hl hm)
  have c2 := fun d os => Calls.regrown_of (w := V) (d := d) (os := os) (rgood_any t n l m _)
  have c3 := fun d os => Calls.regrown_of (w := V) (d := d) (os := os) (area_any t n l m _ ht hn hl hm)
  have c4 := fun d os => Calls.regrown_of (w := V) (d := d) (os := os) (rarea_any t n l m _)
  have c5 := fun d os => Calls.regrown_of (w := V) (d := d) (os := os) (meets_any t n l m t' n' l' m' _ ht hn hl hm ht' hn' hl' hm')
  have c6 := fun d os => Calls.regrown_of (w := V) (d := d) (os := os) (rmeets_any t n l m t' n' l' m' _)
  have c7 := fun d os => Calls.regrown_of (w := V) (d := d) (os := os) (meets_is _ ht' hn' hl' hm' ht hn hl hm (meetsB_comm t' n' l' m' t n l m))
  go_enter Try.func3, Try.ntmps3
  go_wp2
  rw [← HV.out]
  refine wp_region_quiet_below (by kernel_rfl) (by kernel_rfl) ?_
  repeat (quiet_step (first | (with_reducible exact c0 _ _) | (with_reducible exact c1 _ _) | (with_reducible exact c2 _ _) | (with_reducible exact c3 _ _) | (with_reducible exact c4 _ _) | (with_reducible exact c5 _ _) | (with_reducible exact c6 _ _) | (with_reducible exact c7 _ _)))
  refine wpQuiet_nil ?_
  intro _ hw'
  obtain ⟨⟨dq, osq⟩, hw''⟩ := hw'
  subst hw''
  go_wp2
  go_ret
  exact ⟨rfl, below_keep HB.out (below_regrown V dq osq)⟩

set_option maxRecDepth 100000 in
theorem lifted (os : Os) (started : os.Started) (H : Type) (enc : TypeId × Value → H) :
    ReturnsInHanded {} Try.checked os 3 .any (Rows.planeMeetsSpec.pre6 enc Try.prog Try.f3 Rows.planeMeetsRow.domain false) (Rows.planeMeetsSpec.post enc Try.prog Try.f3 false true false false) := by
  refine returnsInHanded_of_change (C := Try.checked) own started (by kernel_rfl) Try.func3
    (ChangeSpec.witness6 (enc := enc) (C := Try.checked) false ⟨#[], #[.agg #[.int .i64 0, .int .i64 0, .int .i64 0, .int .i64 0], .agg #[.int .i64 0, .int .i64 0, .int .i64 0, .int .i64 0]], []⟩ 8 (by kernel_rfl) (by kernel_rfl) (by kernel_rfl) (by kernel_rfl)) ?_
  intro W base args ds gs before hval0 hW hcnd _
  have hval : ∀ (j : Nat) t v, Try.f3.params[j]? = some t → args[j]? = some v → Value.okWide Try.prog W .any base t v := hval0
  have hW' := hW
  obtain ⟨p, q, hA0, hV, rfl, hfz, hnd⟩ := hW
  have hA : DataW.TrodAll enc Try.prog W 0 (fun _ => true) true Try.f3.params.toList args.toList ds p := hA0
  rw [Try.params3] at hA hval
  obtain ⟨v0, vs0, d0, ds0, p0, q0, hargs, rfl, rfl, h0, r0⟩ := trodAll_cons hA
  obtain ⟨v1, vs1, d1, ds1, p1, q1, rfl, rfl, rfl, h1, r1⟩ := trodAll_cons r0
  obtain ⟨rfl, rfl, rfl⟩ := trodAll_nil r1
  obtain rfl : args = #[v0, v1] := by cases args; simp_all
  obtain ⟨rfl, rfl⟩ := trodVars_none hV
  have k0 := h0
  have lt0 : ∀ x ∈ p0, x.block < W.heap.size := by obtain ⟨m, hm⟩ := k0; exact DataW.trod_lt m _ _ _ hm
  obtain ⟨c0, rfl, _⟩ := okWide_struct Try.underlying23 (hval 0 23 v0 rfl rfl)
  obtain ⟨x0, w0⟩ := Opn.opens_arg (Pla.opens_box) h0
  have k1 := h1
  have lt1 : ∀ x ∈ p1, x.block < W.heap.size := by obtain ⟨m, hm⟩ := k1; exact DataW.trod_lt m _ _ _ hm
  obtain ⟨c1, rfl, _⟩ := okWide_struct Try.underlying23 (hval 1 23 v1 rfl rfl)
  obtain ⟨x1, w1⟩ := Opn.opens_arg (Pla.opens_box) h1
  clear hA0 hval0
  refine (walk W c0 x0 w0 c1 x1 w1).mono fun e W' ⟨he, bel⟩ => ?_
  subst he
  exact ⟨_, rfl, _, _, _, [], _, [], hW', trodAll_mk1 (shut_bool Try.underlying4 _), (trodAll_cons_mk (Below.trod laidOut (by kernel_rfl) (of_decide_eq_true (by kernel_rfl)) k0 bel lt0) (trodAll_cons_mk (Below.trod laidOut (by kernel_rfl) (of_decide_eq_true (by kernel_rfl)) k1 bel lt1) trodAll_mk0)), rfl, bel.frame _, fun h => by cases h⟩

theorem over : Rows.planeMeetsRow.holds Try.pinned (OpenSpec.ofChange Rows.planeMeetsSpec) :=
  OpenClaim.holds_of_wide 3 Try.f3 rfl rfl rfl rfl rfl rfl rfl ⟨rfl, rfl, rfl, rfl, rfl⟩ rfl rfl rfl rfl rfl (by kernel_rfl) Try.func3 (by kernel_rfl)
    (of_decide_eq_true (by kernel_rfl)) (by unfold Func.isWrapper; first | (rw [if_pos (by decide +kernel)]; kernel_rfl) | (rw [if_neg (by decide +kernel)]; exact ⟨rfl, rfl⟩))
    (fun os started H enc _ => lifted os started H enc)

/-- THE STATEMENT -/
theorem proved : Rows.PlaneMeetsSaid := over
#print axioms proved
end Go.Proofs.Ytahkhkfmpnoneaa.planeMeets
