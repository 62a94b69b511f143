/- MoneyTurned answers true for any two ints, each read afterwards as it was: a product of two is the same the other way round and with both signs turned, turned with one turned, 0 with 0. No condition. -/
import Derived.Test.YtioaaamkpfglmaaRows
import Derived.WalkKit
import Derived.ProofKit
import Derived.OpenShut
import Derived.ChangeOld
import Derived.Below
import Derived.ShutString
import Derived.Test.YtioaaamkpfglmaaMonLaw
namespace Go.Proofs.Ytioaaamkpfglmaa.moneyTurned
open Go.ChangeShapes Go.WideShapes Go.ChangeAt Go.RowKit
open Go.ChangeMaps (open_string shut_string)
set_option linter.unusedVariables false      -- a walk need not use every 'w<i>' (that an integer argument fits its kind)

theorem own : ownKnob Try.prog.godebug = none := by kernel_rfl

open Mon

set_option maxHeartbeats 800000 in
theorem walk (a0 : Int) (a1 : Int) (w0 : (Lit.int .i64 a0).wf = true) (w1 : (Lit.int .i64 a1).wf = true) (w : World) :
    Calls Try.prog 7 #[.int .i64 a0, .int .i64 a1] w fun e w' => e = .returned (.bool true) ∧ Below w.heap.size w w' := by
  have hcm := mul2_comm a0 a1
  cases hm : mulF [a0, a1] with
  | none =>
    rw [hm] at hcm
    have HA := Lib.hid (mulN_none hm)
    have HB := Lib.hid (mulN_none hcm)
    clear hm hcm w0 w1
    go_enter Try.func7, Try.ntmps7
    go_wp2_with fail
    refine (mul_is _ 2 2 [a0, a1] 0 2 _ rfl (by unfold maxLen; omega) (elems_new _ _ _ _ _ (by simp) (elems_two a0 a1)) HA.out.1 HA.out.2).mono ?_
    rintro e w' ⟨rfl, rfl⟩
    go_wp2_with fail
    refine (mul_is _ 2 2 [a1, a0] 0 2 _ rfl (by unfold maxLen; omega) (elems_new _ _ _ _ _ (by simp) (elems_two a1 a0)) HB.out.1 HB.out.2).mono ?_
    rintro e w' ⟨rfl, rfl⟩
    go_wp2_with fail
    refine (awake_any _).mono ?_
    rintro e w' ⟨rfl, hb⟩
    go_wp2_with fail
    go_ret
    exact ⟨rfl, ((Below.refl _ _).alloc (Nat.le_refl _) _ |>.alloc (by simp) _).trans (hb.mono (by simp; omega))⟩
  | some r =>
    rw [hm] at hcm
    obtain ⟨ht1, ht2, ht3⟩ := mul2_turn hm
    obtain ⟨f1, f2, f3, f4⟩ := mul2_some hm
    obtain ⟨g1, g2⟩ := fitsB_iff.1 f1
    obtain ⟨g3, g4⟩ := fitsB_iff.1 f2
    obtain ⟨g5, g6⟩ := fitsB_iff.1 f3
    have HA := Lib.hid (mulN_some hm)
    have HB := Lib.hid (mulN_some hcm)
    have HC := Lib.hid (mulN_some ht1)
    have HD := Lib.hid (mulN_some ht2)
    have HE := Lib.hid (mulN_some ht3)
    clear hm hcm ht1 ht2 ht3 f1 f2 f3 f4 w0 w1
    go_enter Try.func7, Try.ntmps7
    go_wp2_with fail
    refine (mul_is _ 2 2 [a0, a1] r 0 _ rfl (by unfold maxLen; omega) (elems_new _ _ _ _ _ (by simp) (elems_two a0 a1)) HA.out.1 HA.out.2).mono ?_
    rintro e w' ⟨rfl, rfl⟩
    go_wp2_with fail
    refine (mul_is _ 2 2 [a1, a0] r 0 _ rfl (by unfold maxLen; omega) (elems_new _ _ _ _ _ (by simp) (elems_two a1 a0)) HB.out.1 HB.out.2).mono ?_
    rintro e w' ⟨rfl, rfl⟩
    go_wp2_with fail
    refine (mul_is _ 2 2 [-a0, a1] (-r) 0 _ rfl (by unfold maxLen; omega) (elems_new _ _ _ _ _ (by simp) (elems_two (-a0) a1)) HC.out.1 HC.out.2).mono ?_
    rintro e w' ⟨rfl, rfl⟩
    go_wp2_with fail
    refine (mul_is _ 2 2 [-a0, -a1] r 0 _ rfl (by unfold maxLen; omega) (elems_new _ _ _ _ _ (by simp) (elems_two (-a0) (-a1))) HD.out.1 HD.out.2).mono ?_
    rintro e w' ⟨rfl, rfl⟩
    go_wp2_with fail
    refine (mul_is _ 2 2 [a0, 0] 0 0 _ rfl (by unfold maxLen; omega) (elems_new _ _ _ _ _ (by simp) (elems_two a0 0)) HE.out.1 HE.out.2).mono ?_
    rintro e w' ⟨rfl, rfl⟩
    go_wp2_with fail
    refine (awake_any _).mono ?_
    rintro e w' ⟨rfl, hb⟩
    go_wp2_with fail
    go_ret
    exact ⟨rfl, (((((Below.refl _ _).alloc (Nat.le_refl _) _ |>.alloc (by simp) _).alloc (by simp; omega) _).alloc (by simp; omega) _).alloc (by simp; omega) _).trans (hb.mono (by simp; omega))⟩

/-! ### THE ROW's STEP: WRITTEN OUT: LEAVE IT -/
set_option maxRecDepth 100000 in
theorem lifted (os : Os) (started : os.Started) (H : Type) (enc : TypeId × Value → H) :
    ReturnsInHanded {} Try.checked os 7 .any (Rows.moneyTurnedSpec.pre6 enc Try.prog Try.f7 Rows.moneyTurnedRow.domain false) (Rows.moneyTurnedSpec.post enc Try.prog Try.f7 false true false false) := by
  refine returnsInHanded_of_change (C := Try.checked) own started (by kernel_rfl) Try.func7
    (ChangeSpec.witness6 (enc := enc) (C := Try.checked) false ⟨#[], #[.int .i64 0, .int .i64 0], []⟩ 8 (by kernel_rfl) (by kernel_rfl) (by kernel_rfl) (by kernel_rfl)) ?_
  intro W base args ds gs before hval0 hW hcnd _
  have hval : ∀ (j : Nat) t v, Try.f7.params[j]? = some t → args[j]? = some v → Value.okWide Try.prog W .any base t v := hval0
  have hW' := hW
  obtain ⟨p, q, hA0, hV, rfl, hfz, hnd⟩ := hW
  have hA : DataW.TrodAll enc Try.prog W 0 (fun _ => true) true Try.f7.params.toList args.toList ds p := hA0
  rw [Try.params7] at hA hval
  obtain ⟨v0, vs0, d0, ds0, p0, q0, hargs, rfl, rfl, h0, r0⟩ := trodAll_cons hA
  obtain ⟨v1, vs1, d1, ds1, p1, q1, rfl, rfl, rfl, h1, r1⟩ := trodAll_cons r0
  obtain ⟨rfl, rfl, rfl⟩ := trodAll_nil r1
  obtain rfl : args = #[v0, v1] := by cases args; simp_all
  obtain ⟨rfl, rfl⟩ := trodVars_none hV
  obtain ⟨a0, rfl, rfl, rfl, w0⟩ := open_int Try.underlying3 (hval 0 3 v0 rfl rfl) h0
  obtain ⟨a1, rfl, rfl, rfl, w1⟩ := open_int Try.underlying3 (hval 1 3 v1 rfl rfl) h1
  clear hA0 hval0
  refine (walk a0 a1 w0 w1 W).mono fun e W' ⟨he, hg⟩ => ?_
  subst he
  exact ⟨_, rfl, _, _, _, [], _, [], hW', trodAll_mk1 (shut_bool Try.underlying4 _), (trodAll_cons_mk (shut_int Try.underlying3 w0) (trodAll_cons_mk (shut_int Try.underlying3 w1) trodAll_mk0)), rfl, hg.frame _, fun h => by cases h⟩

theorem over : Rows.moneyTurnedRow.holds Try.pinned (OpenSpec.ofChange Rows.moneyTurnedSpec) :=
  OpenClaim.holds_of_wide 7 Try.f7 rfl rfl rfl rfl rfl rfl rfl ⟨rfl, rfl, rfl, rfl, rfl⟩ rfl rfl rfl rfl rfl (by kernel_rfl) Try.func7 (by kernel_rfl)
    (of_decide_eq_true (by kernel_rfl)) (by unfold Func.isWrapper; first | (rw [if_pos (by decide +kernel)]; kernel_rfl) | (rw [if_neg (by decide +kernel)]; exact ⟨rfl, rfl⟩))
    (fun os started H enc _ => lifted os started H enc)

/-- THE STATEMENT -/
theorem proved : Rows.MoneyTurnedSaid :=
  over
#print axioms proved
end Go.Proofs.Ytioaaamkpfglmaa.moneyTurned
