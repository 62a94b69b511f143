/- TreePaths answers true for any list of funds and any number, the list read afterwards as it was: of its first 20 the program's Good, and its Path of that number, answer as the document says. No condition. -/
import Derived.Test.YtpciijihedlheaaRows
import Derived.WalkKit
import Derived.ProofKit
import Derived.OpenShut
import Derived.ShutString
import Derived.ChangeOld
import Derived.Below
import Derived.Test.YtpciijihedlheaaOpens
import Derived.Test.YtpciijihedlheaaTreAwk
namespace Go.Proofs.Ytpciijihedlheaa.treePaths
open Go.ChangeShapes Go.WideShapes Go.ChangeAt Go.RowKit
open Go.ChangeMaps (open_string shut_string)
set_option linter.unusedVariables false

theorem own : ownKnob Try.prog.godebug = none := by kernel_rfl
theorem laidOut : laidOutB Try.prog = true := by kernel_rfl

open Tre
open Kit
open Go.Sort
set_option maxHeartbeats 4000000 in
theorem walk (W : World) (a0 : Option Addr) (len0 cap0 : Nat) (x0 : List Tre.Fd) (w0 : Opn.RSlice Tre.RFd 3 W [.slice a0 len0 cap0] x0) (a1 : Int) (w1 : (Lit.int .i64 a1).wf = true) :
    Calls Try.prog 3 #[.slice a0 len0 cap0, .int .i64 a1] W fun e w' => e = .returned (.bool true) ∧ Below W.heap.size W w' := by
  obtain ⟨hF, hok⟩ := funds_arg w0
  obtain ⟨m, hm⟩ : ∃ m, m = min len0 20 := ⟨_, rfl⟩
  obtain ⟨X, hX⟩ : ∃ X, X = x0.take m := ⟨_, rfl⟩
  have HFew := Lib.hid (few_any a0 none len0 cap0 0 0 m 0 hF.cap (Nat.le_refl _) hF.max (Nat.zero_le _) hm rfl W)
  have HX := Lib.hid (show Funds W a0 m cap0 X ∧ (∀ x ∈ X, x.ok) from ⟨by rw [hX]; exact lst_take hF m (by omega), fun x hx => by rw [hX] at hx; exact hok x (List.mem_of_mem_take hx)⟩)
  have hmn : m ≤ 100 := by omega
  clear w0 w1 hF hok hm hX
  go_enter Try.func3, Try.ntmps3
  go_wp2_with fail
  refine HFew.out.mono ?_
  rintro e w1 ⟨rfl, rfl⟩
  go_wp2_with fail
  refine (awake_any W).mono ?_
  rintro e w2 ⟨rfl, hb2⟩
  have HB2 := Lib.hid (And.intro hb2 (lst_keep encF_len HX.out.1 hb2))
  clear hb2
  have HG := Lib.hid (good_any X HX.out.2 a0 m cap0 w2 HB2.out.2 hmn)
  generalize hg : goodB X = g at HG
  have HGe := Lib.hid hg
  clear hg
  go_wp2_with fail
  refine HG.out.mono ?_
  rintro e w3 ⟨rfl, hb3⟩
  have HB3 := Lib.hid (And.intro (below_keep HB2.out.1 hb3) (lst_keep encF_len HB2.out.2 hb3))
  clear hb3 HB2 HG
  have HG := Lib.hid (rgood_any X HX.out.2 a0 m cap0 w3 HB3.out.2 hmn)
  rw [HGe.out] at HG
  go_wp2_with fail
  refine HG.out.mono ?_
  rintro e w4 ⟨rfl, hb4⟩
  have HB4 := Lib.hid (And.intro (below_keep HB3.out.1 hb4) (lst_keep encF_len HB3.out.2 hb4))
  clear hb4 HB3 HG
  have HP := Lib.hid (path_any X HX.out.2 a0 m cap0 w4 HB4.out.2 hmn a1)
  have HRP := Lib.hid (fun w h => rpath_any X HX.out.2 a0 m cap0 w h hmn a1)
  generalize path X a1 = p at HP HRP
  go_wp2_with fail
  refine HP.out.mono ?_
  rintro e w5 ⟨v5, rfl, hn5, hb5⟩
  obtain ⟨a5, c5, rfl, hl5, -⟩ := hn5
  obtain ⟨n5, hn5⟩ : ∃ n, n = p.length := ⟨_, rfl⟩
  rw [← hn5] at hl5 ⊢
  have HN := Lib.hid hn5
  have HB5 := Lib.hid (And.intro (below_keep HB4.out.1 hb5) (And.intro (lst_keep encF_len HB4.out.2 hb5) hl5))
  clear hb5 HB4 hl5 hn5
  go_wp2_with fail
  refine (HRP.out w5 HB5.out.2.1).mono ?_
  rintro e w6 ⟨v6, rfl, hn6, hb6⟩
  obtain ⟨a6, c6, rfl, hl6, -⟩ := hn6
  rw [← HN.out] at hl6 ⊢
  have HI := Lib.hid (ints_any a5 a6 n5 c5 n5 c6 p p w6 (lst_keep encI_len HB5.out.2.2 hb6) hl6)
  rw [decide_eq_true (rfl : p = p)] at HI
  have HB6 := Lib.hid (below_keep HB5.out.1 hb6)
  clear hb6 hl6
  go_wp2_with fail
  refine HI.out.mono ?_
  rintro e w7 ⟨rfl, hb7⟩
  have HB7 := Lib.hid (below_keep HB6.out hb7)
  clear hb7
  go_wp2
  go_ret
  exact ⟨rfl, HB7.out⟩

set_option maxRecDepth 100000 in
theorem lifted (os : Os) (started : os.Started) (H : Type) (enc : TypeId × Value → H) :
    ReturnsInHanded {} Try.checked os 3 .any (Rows.treePathsSpec.pre6 enc Try.prog Try.f3 Rows.treePathsRow.domain false) (Rows.treePathsSpec.post enc Try.prog Try.f3 false true false false) := by
  refine returnsInHanded_of_change (C := Try.checked) own started (by kernel_rfl) Try.func3
    (ChangeSpec.witness6 (enc := enc) (C := Try.checked) false ⟨#[], #[.slice none 0 0, .int .i64 0], []⟩ 8 (by kernel_rfl) (by kernel_rfl) (by kernel_rfl) (by kernel_rfl)) ?_
  intro W base args ds gs before hval0 hW hcnd _
  have hval : ∀ (j : Nat) t v, Try.f3.params[j]? = some t → args[j]? = some v → Value.okWide Try.prog W .any base t v := hval0
  have hW' := hW
  obtain ⟨p, q, hA0, hV, rfl, hfz, hnd⟩ := hW
  have hA : DataW.TrodAll enc Try.prog W 0 (fun _ => true) true Try.f3.params.toList args.toList ds p := hA0
  rw [Try.params3] at hA hval
  obtain ⟨v0, vs0, d0, ds0, p0, q0, hargs, rfl, rfl, h0, r0⟩ := trodAll_cons hA
  obtain ⟨v1, vs1, d1, ds1, p1, q1, rfl, rfl, rfl, h1, r1⟩ := trodAll_cons r0
  obtain ⟨rfl, rfl, rfl⟩ := trodAll_nil r1
  obtain rfl : args = #[v0, v1] := by cases args; simp_all
  obtain ⟨rfl, rfl⟩ := trodVars_none hV
  have k0 := h0
  have lt0 : ∀ x ∈ p0, x.block < W.heap.size := by obtain ⟨m, hm⟩ := k0; exact DataW.trod_lt m _ _ _ hm
  obtain ⟨a0, len0, cap0, rfl⟩ := okWide_slice Try.underlying22 (hval 0 22 v0 rfl rfl)
  obtain ⟨x0, w0⟩ := Opn.opens_arg (Tre.opens_funds) h0
  have k1 := h1
  have lt1 : ∀ x ∈ p1, x.block < W.heap.size := by obtain ⟨m, hm⟩ := k1; exact DataW.trod_lt m _ _ _ hm
  obtain ⟨a1, rfl, _, _, w1⟩ := open_int Try.underlying3 (hval 1 3 v1 rfl rfl) h1
  clear hA0 hval0
  refine (walk W a0 len0 cap0 x0 w0 a1 w1).mono fun e W' ⟨he, bel⟩ => ?_
  subst he
  exact ⟨_, rfl, _, _, _, [], _, [], hW', trodAll_mk1 (shut_bool Try.underlying4 _), (trodAll_cons_mk (Below.trod laidOut (by kernel_rfl) (of_decide_eq_true (by kernel_rfl)) k0 bel lt0) (trodAll_cons_mk (Below.trod laidOut (by kernel_rfl) (of_decide_eq_true (by kernel_rfl)) k1 bel lt1) trodAll_mk0)), rfl, bel.frame _, fun h => by cases h⟩

theorem over : Rows.treePathsRow.holds Try.pinned (OpenSpec.ofChange Rows.treePathsSpec) :=
  OpenClaim.holds_of_wide 3 Try.f3 rfl rfl rfl rfl rfl rfl rfl ⟨rfl, rfl, rfl, rfl, rfl⟩ rfl rfl rfl rfl rfl (by kernel_rfl) Try.func3 (by kernel_rfl)
    (of_decide_eq_true (by kernel_rfl)) (by unfold Func.isWrapper; first | (rw [if_pos (by decide +kernel)]; kernel_rfl) | (rw [if_neg (by decide +kernel)]; exact ⟨rfl, rfl⟩))
    (fun os started H enc _ => lifted os started H enc)

/-- THE STATEMENT -/
theorem proved : Rows.TreePathsSaid := over
#print axioms proved
end Go.Proofs.Ytpciijihedlheaa.treePaths
