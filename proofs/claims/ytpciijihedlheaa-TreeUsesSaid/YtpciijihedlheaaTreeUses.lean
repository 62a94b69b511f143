/- TreeUses answers true for any lists of funds and of allocations and any number, the lists read afterwards as they were: of their first 20 the program's Use of that number, and its Over, answer as the document says. No condition. -/
import Derived.Test.YtpciijihedlheaaRows
import Derived.WalkKit
import Derived.ProofKit
import Derived.OpenShut
import Derived.ShutString
import Derived.ChangeOld
import Derived.Below
import Derived.Test.YtpciijihedlheaaOpens
import Derived.Test.YtpciijihedlheaaTreAwk
namespace Go.Proofs.Ytpciijihedlheaa.treeUses
open Go.ChangeShapes Go.WideShapes Go.ChangeAt Go.RowKit
open Go.ChangeMaps (open_string shut_string)
set_option linter.unusedVariables false

theorem own : ownKnob Try.prog.godebug = none := by kernel_rfl
theorem laidOut : laidOutB Try.prog = true := by kernel_rfl

open Tre
open Kit
open Go.Sort
set_option maxHeartbeats 4000000 in
theorem walk (W : World) (a0 : Option Addr) (len0 cap0 : Nat) (x0 : List Tre.Fd) (w0 : Opn.RSlice Tre.RFd 3 W [.slice a0 len0 cap0] x0) (a1 : Option Addr) (len1 cap1 : Nat) (x1 : List Tre.Al) (w1 : Opn.RSlice Tre.RAl 6 W [.slice a1 len1 cap1] x1) (a2 : Int) (w2 : (Lit.int .i64 a2).wf = true) :
    Calls Try.prog 4 #[.slice a0 len0 cap0, .slice a1 len1 cap1, .int .i64 a2] W fun e w' => e = .returned (.bool true) ∧ Below W.heap.size W w' := by
  obtain ⟨hF, hok⟩ := funds_arg w0
  obtain ⟨hA, hoka⟩ := allocs_arg w1
  obtain ⟨m, hm⟩ : ∃ m, m = min len0 20 := ⟨_, rfl⟩
  obtain ⟨X, hX⟩ : ∃ X, X = x0.take m := ⟨_, rfl⟩
  obtain ⟨m2, hm2⟩ : ∃ m, m = min len1 20 := ⟨_, rfl⟩
  obtain ⟨Y, hY⟩ : ∃ Y, Y = x1.take m2 := ⟨_, rfl⟩
  have HFew := Lib.hid (few_any a0 a1 len0 cap0 len1 cap1 m m2 hF.cap hA.cap hF.max hA.max hm hm2 W)
  have HX := Lib.hid (show Funds W a0 m cap0 X ∧ (∀ x ∈ X, x.ok) from ⟨by rw [hX]; exact lst_take hF m (by omega), fun x hx => by rw [hX] at hx; exact hok x (List.mem_of_mem_take hx)⟩)
  have HY := Lib.hid (show Allocs W a1 m2 cap1 Y ∧ (∀ x ∈ Y, x.ok) from ⟨by rw [hY]; exact lst_take hA m2 (by omega), fun x hx => by rw [hY] at hx; exact hoka x (List.mem_of_mem_take hx)⟩)
  have hmn : m ≤ 100 := by omega
  have hmn2 : m2 ≤ 100 := by omega
  clear w0 w1 w2 hF hok hA hoka hm hX hm2 hY
  have HU := Lib.hid (use_any X HX.out.2 a0 m cap0 Y HY.out.2 a1 m2 cap1 W HX.out.1 hmn HY.out.1 hmn2 a2)
  have HRU := Lib.hid (fun w h1 h2 => ruse_any X HX.out.2 a0 m cap0 Y HY.out.2 a1 m2 cap1 w h1 hmn h2 hmn2 a2)
  generalize useN X Y a2 = un at HU HRU
  generalize useE X Y a2 = ue at HU HRU
  have HO := Lib.hid (fun w h1 h2 => over_any X HX.out.2 a0 m cap0 Y HY.out.2 a1 m2 cap1 w h1 hmn h2 hmn2)
  have HRO := Lib.hid (fun w h1 h2 => rover_any X HX.out.2 a0 m cap0 Y a1 m2 cap1 w h1 hmn h2 (fun w h1 h2 f => ruse_any X HX.out.2 a0 m cap0 Y HY.out.2 a1 m2 cap1 w h1 hmn h2 hmn2 f))
  generalize over X Y = ov at HO HRO
  go_enter Try.func4, Try.ntmps4
  go_wp2_with fail
  refine HFew.out.mono ?_
  rintro e w1 ⟨rfl, rfl⟩
  go_wp2_with fail
  refine HU.out.mono ?_
  rintro e w2 ⟨rfl, hb2⟩
  have HB2 := Lib.hid (And.intro hb2 (And.intro (lst_keep encF_len HX.out.1 hb2) (lst_keep encL_len HY.out.1 hb2)))
  clear hb2
  go_wp2_with fail
  refine (HRU.out w2 HB2.out.2.1 HB2.out.2.2).mono ?_
  rintro e w3 ⟨rfl, hb3⟩
  have HB3 := Lib.hid (And.intro (below_keep HB2.out.1 hb3) (And.intro (lst_keep encF_len HB2.out.2.1 hb3) (lst_keep encL_len HB2.out.2.2 hb3)))
  clear hb3
  go_wp2_with fail
  refine (awake_any w3).mono ?_
  rintro e w4 ⟨rfl, hb4⟩
  have HB4 := Lib.hid (And.intro (below_keep HB3.out.1 hb4) (And.intro (lst_keep encF_len HB3.out.2.1 hb4) (lst_keep encL_len HB3.out.2.2 hb4)))
  clear hb4
  go_wp2_with fail
  refine (HO.out w4 HB4.out.2.1 HB4.out.2.2).mono ?_
  rintro e w5 ⟨rfl, hb5⟩
  have HB5 := Lib.hid (And.intro (below_keep HB4.out.1 hb5) (And.intro (lst_keep encF_len HB4.out.2.1 hb5) (lst_keep encL_len HB4.out.2.2 hb5)))
  clear hb5
  go_wp2_with fail
  refine (HRO.out w5 HB5.out.2.1 HB5.out.2.2).mono ?_
  rintro e w6 ⟨rfl, hb6⟩
  have HB6 := Lib.hid (below_keep HB5.out.1 hb6)
  clear hb6
  go_wp2
  go_ret
  exact ⟨ret_bool (by simp), HB6.out⟩

set_option maxRecDepth 100000 in
theorem lifted (os : Os) (started : os.Started) (H : Type) (enc : TypeId × Value → H) :
    ReturnsInHanded {} Try.checked os 4 .any (Rows.treeUsesSpec.pre6 enc Try.prog Try.f4 Rows.treeUsesRow.domain false) (Rows.treeUsesSpec.post enc Try.prog Try.f4 false true false false) := by
  refine returnsInHanded_of_change (C := Try.checked) own started (by kernel_rfl) Try.func4
    (ChangeSpec.witness6 (enc := enc) (C := Try.checked) false ⟨#[], #[.slice none 0 0, .slice none 0 0, .int .i64 0], []⟩ 8 (by kernel_rfl) (by kernel_rfl) (by kernel_rfl) (by kernel_rfl)) ?_
  intro W base args ds gs before hval0 hW hcnd _
  have hval : ∀ (j : Nat) t v, Try.f4.params[j]? = some t → args[j]? = some v → Value.okWide Try.prog W .any base t v := hval0
  have hW' := hW
  obtain ⟨p, q, hA0, hV, rfl, hfz, hnd⟩ := hW
  have hA : DataW.TrodAll enc Try.prog W 0 (fun _ => true) true Try.f4.params.toList args.toList ds p := hA0
  rw [Try.params4] at hA hval
  obtain ⟨v0, vs0, d0, ds0, p0, q0, hargs, rfl, rfl, h0, r0⟩ := trodAll_cons hA
  obtain ⟨v1, vs1, d1, ds1, p1, q1, rfl, rfl, rfl, h1, r1⟩ := trodAll_cons r0
  obtain ⟨v2, vs2, d2, ds2, p2, q2, rfl, rfl, rfl, h2, r2⟩ := trodAll_cons r1
  obtain ⟨rfl, rfl, rfl⟩ := trodAll_nil r2
  obtain rfl : args = #[v0, v1, v2] := by cases args; simp_all
  obtain ⟨rfl, rfl⟩ := trodVars_none hV
  have k0 := h0
  have lt0 : ∀ x ∈ p0, x.block < W.heap.size := by obtain ⟨m, hm⟩ := k0; exact DataW.trod_lt m _ _ _ hm
  obtain ⟨a0, len0, cap0, rfl⟩ := okWide_slice Try.underlying22 (hval 0 22 v0 rfl rfl)
  obtain ⟨x0, w0⟩ := Opn.opens_arg (Tre.opens_funds) h0
  have k1 := h1
  have lt1 : ∀ x ∈ p1, x.block < W.heap.size := by obtain ⟨m, hm⟩ := k1; exact DataW.trod_lt m _ _ _ hm
  obtain ⟨a1, len1, cap1, rfl⟩ := okWide_slice Try.underlying23 (hval 1 23 v1 rfl rfl)
  obtain ⟨x1, w1⟩ := Opn.opens_arg (Tre.opens_allocs) h1
  have k2 := h2
  have lt2 : ∀ x ∈ p2, x.block < W.heap.size := by obtain ⟨m, hm⟩ := k2; exact DataW.trod_lt m _ _ _ hm
  obtain ⟨a2, rfl, _, _, w2⟩ := open_int Try.underlying3 (hval 2 3 v2 rfl rfl) h2
  clear hA0 hval0
  refine (walk W a0 len0 cap0 x0 w0 a1 len1 cap1 x1 w1 a2 w2).mono fun e W' ⟨he, bel⟩ => ?_
  subst he
  exact ⟨_, rfl, _, _, _, [], _, [], hW', trodAll_mk1 (shut_bool Try.underlying4 _), (trodAll_cons_mk (Below.trod laidOut (by kernel_rfl) (of_decide_eq_true (by kernel_rfl)) k0 bel lt0) (trodAll_cons_mk (Below.trod laidOut (by kernel_rfl) (of_decide_eq_true (by kernel_rfl)) k1 bel lt1) (trodAll_cons_mk (Below.trod laidOut (by kernel_rfl) (of_decide_eq_true (by kernel_rfl)) k2 bel lt2) trodAll_mk0))), rfl, bel.frame _, fun h => by cases h⟩

theorem over : Rows.treeUsesRow.holds Try.pinned (OpenSpec.ofChange Rows.treeUsesSpec) :=
  OpenClaim.holds_of_wide 4 Try.f4 rfl rfl rfl rfl rfl rfl rfl ⟨rfl, rfl, rfl, rfl, rfl⟩ rfl rfl rfl rfl rfl (by kernel_rfl) Try.func4 (by kernel_rfl)
    (of_decide_eq_true (by kernel_rfl)) (by unfold Func.isWrapper; first | (rw [if_pos (by decide +kernel)]; kernel_rfl) | (rw [if_neg (by decide +kernel)]; exact ⟨rfl, rfl⟩))
    (fun os started H enc _ => lifted os started H enc)

/-- THE STATEMENT -/
theorem proved : Rows.TreeUsesSaid := over
#print axioms proved
end Go.Proofs.Ytpciijihedlheaa.treeUses
