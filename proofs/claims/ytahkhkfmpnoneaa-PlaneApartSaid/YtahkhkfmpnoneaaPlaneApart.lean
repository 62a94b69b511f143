/- PlaneApart answers true for any list of boxes, which reads afterwards as it did: plane.Apart of its first 60 answers as the document says. No condition. -/
import Derived.Test.YtahkhkfmpnoneaaRows
import Derived.WalkKit
import Derived.ProofKit
import Derived.OpenShut
import Derived.ShutString
import Derived.ChangeOld
import Derived.Below
import Derived.Test.YtahkhkfmpnoneaaOpens
import Derived.Test.YtahkhkfmpnoneaaPlaAwake
namespace Go.Proofs.Ytahkhkfmpnoneaa.planeApart
open Go.ChangeShapes Go.WideShapes Go.ChangeAt Go.RowKit
open Go.ChangeMaps (open_string shut_string)
set_option linter.unusedVariables false

theorem own : ownKnob Try.prog.godebug = none := by kernel_rfl
theorem laidOut : laidOutB Try.prog = true := by kernel_rfl

open Pla
set_option maxHeartbeats 2000000 in
theorem walk (W : World) (a0 : Option Addr) (len0 cap0 : Nat) (x0 : List Pla.Bx) (w0 : Opn.RSlice Pla.RBox 4 W [.slice a0 len0 cap0] x0) :
    Calls Try.prog 4 #[.slice a0 len0 cap0] W fun e w' => e = .returned (.bool true) ∧ Below W.heap.size W w' := by
  obtain ⟨a, len, cap, he, hl, hcap, hm, hnil, hc⟩ := w0
  simp at he
  obtain ⟨rfl, rfl, rfl⟩ := he
  have hall : ∀ y ∈ x0, y.wide := by
    rcases hc with rfl | ⟨b, off, _, h⟩
    · intro y hy; cases hy
    · intro y hy
      obtain ⟨j, hj, rfl⟩ := List.getElem_of_mem hy
      obtain ⟨ecs, _, ⟨_, hw, _⟩, _⟩ := h j hj
      exact hw
  have hE : Boxes W a0 x0 := by
    rcases hc with h | ⟨b, off, h1, h2⟩
    · exact .inl h
    · refine .inr ⟨b, off, h1, fun j hj => ?_⟩
      obtain ⟨ecs, _, ⟨h3, _⟩, h4⟩ := h2 j hj
      subst h3
      exact ⟨by have := h4 0 (by omega); simpa using this, by have := h4 1 (by omega); simpa using this, by have := h4 2 (by omega); simpa using this, by have := h4 3 (by omega); simpa using this⟩
  clear hc
  have hm' := hm
  unfold maxLen at hm'
  by_cases h60 : 60 < len0
  · have hd : decide ((60 : Int) < (len0 : Int)) = true := by rw [decide_eq_true_iff]; omega
    have HE := Lib.hid (boxes_take hE 60)
    have HL := Lib.hid (show (x0.take 60).length = 60 by rw [List.length_take]; omega)
    have hall' : ∀ y ∈ x0.take 60, y.wide := fun y hy => hall y (List.mem_of_mem_take hy)
    clear hE hall hnil hl
    have i1 : (60 : Int) ≤ (cap0 : Int) := by omega
    go_enter Try.func4, Try.ntmps4
    go_wp2_with fail
    refine (awake_any _).mono ?_
    rintro e w3 ⟨rfl, hb⟩
    have HB := Lib.hid hb
    have HE1 := Lib.hid (boxes_below HE.out hb)
    clear hb
    go_wp2_with fail
    refine (apart_any _ 60 _ (x0.take 60) _ hall' HL.out (by omega) hm HE1.out).mono ?_
    rintro e w4 ⟨rfl, hb⟩
    have HB2 := Lib.hid (below_keep HB.out hb)
    have HE2 := Lib.hid (boxes_below HE1.out hb)
    clear hb
    go_wp2_with fail
    refine (rapart_any _ 60 _ (x0.take 60) _ HL.out (by omega) hm HE2.out).mono ?_
    rintro e w5 ⟨rfl, hb⟩
    go_wp2
    go_ret
    exact ⟨rfl, below_keep HB2.out hb⟩
  · have hd : decide ((60 : Int) < (len0 : Int)) = false := by rw [decide_eq_false_iff_not]; omega
    have HE := Lib.hid hE
    have HL := Lib.hid hl
    clear hE hnil hl
    go_enter Try.func4, Try.ntmps4
    go_wp2_with fail
    refine (awake_any _).mono ?_
    rintro e w3 ⟨rfl, hb⟩
    have HB := Lib.hid hb
    have HE1 := Lib.hid (boxes_below HE.out hb)
    clear hb
    go_wp2_with fail
    refine (apart_any _ len0 _ x0 _ hall HL.out (by omega) hm HE1.out).mono ?_
    rintro e w4 ⟨rfl, hb⟩
    have HB2 := Lib.hid (below_keep HB.out hb)
    have HE2 := Lib.hid (boxes_below HE1.out hb)
    clear hb
    go_wp2_with fail
    refine (rapart_any _ len0 _ x0 _ HL.out (by omega) hm HE2.out).mono ?_
    rintro e w5 ⟨rfl, hb⟩
    go_wp2
    go_ret
    exact ⟨rfl, below_keep HB2.out hb⟩

set_option maxRecDepth 100000 in
theorem lifted (os : Os) (started : os.Started) (H : Type) (enc : TypeId × Value → H) :
    ReturnsInHanded {} Try.checked os 4 .any (Rows.planeApartSpec.pre6 enc Try.prog Try.f4 Rows.planeApartRow.domain false) (Rows.planeApartSpec.post enc Try.prog Try.f4 false true false false) := by
  refine returnsInHanded_of_change (C := Try.checked) own started (by kernel_rfl) Try.func4
    (ChangeSpec.witness6 (enc := enc) (C := Try.checked) false ⟨#[], #[.slice none 0 0], []⟩ 8 (by kernel_rfl) (by kernel_rfl) (by kernel_rfl) (by kernel_rfl)) ?_
  intro W base args ds gs before hval0 hW hcnd _
  have hval : ∀ (j : Nat) t v, Try.f4.params[j]? = some t → args[j]? = some v → Value.okWide Try.prog W .any base t v := hval0
  have hW' := hW
  obtain ⟨p, q, hA0, hV, rfl, hfz, hnd⟩ := hW
  have hA : DataW.TrodAll enc Try.prog W 0 (fun _ => true) true Try.f4.params.toList args.toList ds p := hA0
  rw [Try.params4] at hA hval
  obtain ⟨v0, vs0, d0, ds0, p0, q0, hargs, rfl, rfl, h0, r0⟩ := trodAll_cons hA
  obtain ⟨rfl, rfl, rfl⟩ := trodAll_nil r0
  obtain rfl : args = #[v0] := by cases args; simp_all
  obtain ⟨rfl, rfl⟩ := trodVars_none hV
  have k0 := h0
  have lt0 : ∀ x ∈ p0, x.block < W.heap.size := by obtain ⟨m, hm⟩ := k0; exact DataW.trod_lt m _ _ _ hm
  obtain ⟨a0, len0, cap0, rfl⟩ := okWide_slice Try.underlying28 (hval 0 28 v0 rfl rfl)
  obtain ⟨x0, w0⟩ := Opn.opens_arg (Pla.opens_boxes) h0
  clear hA0 hval0
  refine (walk W a0 len0 cap0 x0 w0).mono fun e W' ⟨he, bel⟩ => ?_
  subst he
  exact ⟨_, rfl, _, _, _, [], _, [], hW', trodAll_mk1 (shut_bool Try.underlying4 _), (trodAll_cons_mk (Below.trod laidOut (by kernel_rfl) (of_decide_eq_true (by kernel_rfl)) k0 bel lt0) trodAll_mk0), rfl, bel.frame _, fun h => by cases h⟩

theorem over : Rows.planeApartRow.holds Try.pinned (OpenSpec.ofChange Rows.planeApartSpec) :=
  OpenClaim.holds_of_wide 4 Try.f4 rfl rfl rfl rfl rfl rfl rfl ⟨rfl, rfl, rfl, rfl, rfl⟩ rfl rfl rfl rfl rfl (by kernel_rfl) Try.func4 (by kernel_rfl)
    (of_decide_eq_true (by kernel_rfl)) (by unfold Func.isWrapper; first | (rw [if_pos (by decide +kernel)]; kernel_rfl) | (rw [if_neg (by decide +kernel)]; exact ⟨rfl, rfl⟩))
    (fun os started H enc _ => lifted os started H enc)

/-- THE STATEMENT -/
theorem proved : Rows.PlaneApartSaid := over
#print axioms proved
end Go.Proofs.Ytahkhkfmpnoneaa.planeApart
