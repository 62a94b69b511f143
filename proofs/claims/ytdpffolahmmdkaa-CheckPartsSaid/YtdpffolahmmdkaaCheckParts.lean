/- CheckParts answers true for any two byte lists, each read afterwards as it was: the sum of the first 2000 bytes of both together is the sum that goes on from the first's with the second's, and the one from the start on. No condition. -/
import Derived.Test.YtdpffolahmmdkaaRows
import Derived.WalkKit
import Derived.ProofKit
import Derived.OpenShut
import Derived.ShutString
import Derived.ChangeOld
import Derived.Below
import Derived.Test.YtdpffolahmmdkaaOpens
import Derived.Test.YtdpffolahmmdkaaChkLaw
namespace Go.Proofs.Ytdpffolahmmdkaa.checkParts
open Go.ChangeShapes Go.WideShapes Go.ChangeAt Go.RowKit
open Go.ChangeMaps (open_string shut_string)
set_option linter.unusedVariables false

theorem own : ownKnob Try.prog.godebug = none := by kernel_rfl
theorem laidOut : laidOutB Try.prog = true := by kernel_rfl

open Chk
open Oct
open Kit
open Go.Sort
set_option maxHeartbeats 4000000 in
theorem walk (W : World) (a0 : Option Addr) (len0 cap0 : Nat) (x0 : List UInt8) (w0 : Opn.RSlice Oct.RByte 1 W [.slice a0 len0 cap0] x0) (a1 : Option Addr) (len1 cap1 : Nat) (x1 : List UInt8) (w1 : Opn.RSlice Oct.RByte 1 W [.slice a1 len1 cap1] x1) :
    Calls Try.prog 4 #[.slice a0 len0 cap0, .slice a1 len1 cap1] W fun e w' => e = .returned (.bool true) ∧ Below W.heap.size W w' := by
  obtain ⟨hl, hc, hcm, hn, hE⟩ := bytes_arg w0
  obtain ⟨hl1, hc1, hcm1, hn1, hE1⟩ := bytes_arg w1
  have HE := Lib.hid hE
  have HE1 := Lib.hid hE1
  have hS0 := cutB_length x0
  have hS1 := cutB_length x1
  have nS : a0 = none → (cutB x0).length = 0 ∧ cap0 = 0 := fun h => ⟨by
    have h1 := (hn h).1
    unfold cutB; rw [List.length_take]; omega, (hn h).2⟩
  have nS1 : a1 = none → (cutB x1).length = 0 ∧ cap1 = 0 := fun h => ⟨by
    have h1 := (hn1 h).1
    unfold cutB; rw [List.length_take]; omega, (hn1 h).2⟩
  have HNS := Lib.hid (And.intro nS nS1)
  have HS := Lib.hid (And.intro hS0 hS1)
  have HQ := Lib.hid (fun w h => short_any a0 len0 cap0 x0 w hl hc hcm hn h)
  have HQ1 := Lib.hid (fun w h => short_any a1 len1 cap1 x1 w hl1 hc1 hcm1 hn1 h)
  clear w0 w1 hl hc hcm hn hE hl1 hc1 hcm1 hn1 hE1 hS0 hS1 nS nS1
  go_enter Try.func4, Try.ntmps4
  go_wp2_with fail
  refine (HQ.out W HE.out).mono ?_
  rintro e w1 ⟨rfl, rfl⟩
  go_wp2_with fail
  refine (HQ1.out W HE1.out).mono ?_
  rintro e w1 ⟨rfl, rfl⟩
  go_wp2_with (first
    | (at_builtin; refine append_b rfl (.tmp 12) (.tmp 13) rfl W.heap.size _ [] rfl (own_empty W _ (Nat.le_refl _)) a0 _ cap0 (cutB x0) rfl rfl (row_alloc (row_short HE.out) _) HNS.out.1 (by have := HS.out.1; simp; omega) (by simp) ?_; intro v w1 hown hb; have HO := Lib.hid hown; have HB := Lib.hid ((below_alloc W _).trans hb); clear hown hb)
    | (at_builtin; refine append_b rfl (.tmp 14) (.tmp 15) rfl W.heap.size _ (cutB x0) rfl HO.out a1 _ cap1 (cutB x1) rfl rfl (row_keep encB_len (row_short HE1.out) HB.out) HNS.out.2 (by have := HS.out; omega) HB.out.size ?_; intro v2 w2 hown hb2; have HO2 := Lib.hid hown; have HB2 := Lib.hid (HB.out.trans hb2); clear hown hb2)
    | fail)
  have hL4 : (cutB x0 ++ cutB x1).length ≤ 4000 := by rw [List.length_append]; have := HS.out; omega
  have hsum := sumB_append (cutB x0) (cutB x1)
  generalize cutB x0 ++ cutB x1 = LL at HO2 hL4 hsum
  have HL := Lib.hid hL4
  have HSum := Lib.hid hsum
  clear hL4 hsum
  obtain ⟨a2, c2, rfl, _, _, _, hR⟩ := own_row HO2.out
  refine (awake_any w2).mono ?_
  rintro e w3 ⟨rfl, hb⟩
  have HX := Lib.hid (row_keep encB_len (row_short HE.out) (below_keep HB2.out hb))
  have HY := Lib.hid (row_keep encB_len (row_short HE1.out) (below_keep HB2.out hb))
  have HR := Lib.hid (row_keep encB_len hR hb)
  have HB3 := Lib.hid (below_keep HB2.out hb)
  clear hb hR HO HO2 HB HB2 HE HE1 HQ HQ1
  go_wp2_with fail
  refine (of_any a0 _ cap0 (cutB x0) w3 rfl (by have := HS.out; omega) HX.out).mono ?_
  rintro e w4 ⟨rfl, hb⟩
  have HB4 := Lib.hid (below_keep HB3.out hb)
  have HY4 := Lib.hid (row_keep encB_len HY.out hb)
  have HR4 := Lib.hid (row_keep encB_len HR.out hb)
  clear hb
  go_wp2_with fail
  refine (from_any (sumB (cutB x0)) a1 _ cap1 (cutB x1) w4 rfl (by have := HS.out; omega) HY4.out).mono ?_
  rintro e w5 ⟨rfl, hb⟩
  have HB5 := Lib.hid (below_keep HB4.out hb)
  have HR5 := Lib.hid (row_keep encB_len HR4.out hb)
  clear hb
  go_wp2_with fail
  refine (of_is a2 _ c2 LL (crc (sumB (cutB x0)) (cutB x1)) w5 rfl HL.out HR5.out HSum.out).mono ?_
  rintro e w6 ⟨rfl, hb⟩
  have HB6 := Lib.hid (below_keep HB5.out hb)
  have HR6 := Lib.hid (row_keep encB_len HR5.out hb)
  clear hb
  go_wp2_with fail
  refine (start_any w6).mono ?_
  rintro e w7 ⟨rfl, rfl⟩
  go_wp2_with fail
  refine (from_any 0xffffffff#32 a2 _ c2 LL w6 rfl HL.out HR6.out).mono ?_
  rintro e w7 ⟨rfl, hb⟩
  have HB7 := Lib.hid (below_keep HB6.out hb)
  have HR7 := Lib.hid (row_keep encB_len HR6.out hb)
  clear hb
  go_wp2_with fail
  refine (of_is a2 _ c2 LL (crc 0xffffffff#32 LL) w7 rfl HL.out HR7.out rfl).mono ?_
  rintro e w8 ⟨rfl, hb⟩
  have HB8 := Lib.hid (below_keep HB7.out hb)
  clear hb
  go_wp2
  go_ret
  exact ⟨ret_bool (by simp), HB8.out⟩

set_option maxRecDepth 100000 in
theorem lifted (os : Os) (started : os.Started) (H : Type) (enc : TypeId × Value → H) :
    ReturnsInHanded {} Try.checked os 4 .any (Rows.checkPartsSpec.pre6 enc Try.prog Try.f4 Rows.checkPartsRow.domain false) (Rows.checkPartsSpec.post enc Try.prog Try.f4 false true false false) := by
  refine returnsInHanded_of_change (C := Try.checked) own started (by kernel_rfl) Try.func4
    (ChangeSpec.witness6 (enc := enc) (C := Try.checked) false ⟨#[], #[.slice none 0 0, .slice none 0 0], []⟩ 8 (by kernel_rfl) (by kernel_rfl) (by kernel_rfl) (by kernel_rfl)) ?_
  intro W base args ds gs before hval0 hW hcnd _
  have hval : ∀ (j : Nat) t v, Try.f4.params[j]? = some t → args[j]? = some v → Value.okWide Try.prog W .any base t v := hval0
  have hW' := hW
  obtain ⟨p, q, hA0, hV, rfl, hfz, hnd⟩ := hW
  have hA : DataW.TrodAll enc Try.prog W 0 (fun _ => true) true Try.f4.params.toList args.toList ds p := hA0
  rw [Try.params4] at hA hval
  obtain ⟨v0, vs0, d0, ds0, p0, q0, hargs, rfl, rfl, h0, r0⟩ := trodAll_cons hA
  obtain ⟨v1, vs1, d1, ds1, p1, q1, rfl, rfl, rfl, h1, r1⟩ := trodAll_cons r0
  obtain ⟨rfl, rfl, rfl⟩ := trodAll_nil r1
  obtain rfl : args = #[v0, v1] := by cases args; simp_all
  obtain ⟨rfl, rfl⟩ := trodVars_none hV
  have k0 := h0
  have lt0 : ∀ x ∈ p0, x.block < W.heap.size := by obtain ⟨m, hm⟩ := k0; exact DataW.trod_lt m _ _ _ hm
  obtain ⟨a0, len0, cap0, rfl⟩ := okWide_slice Try.underlying23 (hval 0 23 v0 rfl rfl)
  obtain ⟨x0, w0⟩ := Opn.opens_arg (Oct.opens_bytes) h0
  have k1 := h1
  have lt1 : ∀ x ∈ p1, x.block < W.heap.size := by obtain ⟨m, hm⟩ := k1; exact DataW.trod_lt m _ _ _ hm
  obtain ⟨a1, len1, cap1, rfl⟩ := okWide_slice Try.underlying23 (hval 1 23 v1 rfl rfl)
  obtain ⟨x1, w1⟩ := Opn.opens_arg (Oct.opens_bytes) h1
  clear hA0 hval0
  refine (walk W a0 len0 cap0 x0 w0 a1 len1 cap1 x1 w1).mono fun e W' ⟨he, bel⟩ => ?_
  subst he
  exact ⟨_, rfl, _, _, _, [], _, [], hW', trodAll_mk1 (shut_bool Try.underlying4 _), (trodAll_cons_mk (Below.trod laidOut (by kernel_rfl) (of_decide_eq_true (by kernel_rfl)) k0 bel lt0) (trodAll_cons_mk (Below.trod laidOut (by kernel_rfl) (of_decide_eq_true (by kernel_rfl)) k1 bel lt1) trodAll_mk0)), rfl, bel.frame _, fun h => by cases h⟩

theorem over : Rows.checkPartsRow.holds Try.pinned (OpenSpec.ofChange Rows.checkPartsSpec) :=
  OpenClaim.holds_of_wide 4 Try.f4 rfl rfl rfl rfl rfl rfl rfl ⟨rfl, rfl, rfl, rfl, rfl⟩ rfl rfl rfl rfl rfl (by kernel_rfl) Try.func4 (by kernel_rfl)
    (of_decide_eq_true (by kernel_rfl)) (by unfold Func.isWrapper; first | (rw [if_pos (by decide +kernel)]; kernel_rfl) | (rw [if_neg (by decide +kernel)]; exact ⟨rfl, rfl⟩))
    (fun os started H enc _ => lifted os started H enc)

/-- THE STATEMENT -/
theorem proved : Rows.CheckPartsSaid := over
#print axioms proved
end Go.Proofs.Ytdpffolahmmdkaa.checkParts
