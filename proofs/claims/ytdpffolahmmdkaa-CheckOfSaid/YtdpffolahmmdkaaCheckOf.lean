/- CheckOf answers true for any sum and any bytes, each read afterwards as it was: what check says of the first 2000 of them, from that sum on and from the start, is what the document says. No condition. -/
import Derived.Test.YtdpffolahmmdkaaRows
import Derived.WalkKit
import Derived.ProofKit
import Derived.OpenShut
import Derived.ShutString
import Derived.ChangeOld
import Derived.Below
import Derived.Test.YtdpffolahmmdkaaOpens
import Derived.Test.YtdpffolahmmdkaaChkLaw
namespace Go.Proofs.Ytdpffolahmmdkaa.checkOf
open Go.ChangeShapes Go.WideShapes Go.ChangeAt Go.RowKit
open Go.ChangeMaps (open_string shut_string)
set_option linter.unusedVariables false

theorem own : ownKnob Try.prog.godebug = none := by kernel_rfl
theorem laidOut : laidOutB Try.prog = true := by kernel_rfl

open Chk
open Oct
open Kit
open Go.Sort
theorem from_any4 (s : BitVec 32) (a : Option Addr) (len cap : Nat) (l : List UInt8) (w : World) (hl : l.length = len) (hm : len ≤ 2000) (hE : RowB w a l) :
    Calls Try.prog 8 #[uv s, .slice a len cap] w fun e w' => e = .returned (uv (crc s l)) ∧ Below w.heap.size w w' := from_any s a len cap l w hl (by omega) hE
theorem of_any4 (a : Option Addr) (len cap : Nat) (l : List UInt8) (w : World) (hl : l.length = len) (hm : len ≤ 2000) (hE : RowB w a l) :
    Calls Try.prog 11 #[.slice a len cap] w fun e w' => e = .returned (uv (sumB l)) ∧ Below w.heap.size w w' := of_any a len cap l w hl (by omega) hE
set_option maxHeartbeats 4000000 in
theorem walk (W : World) (a0 : Int) (w0 : (Lit.int .u32 a0).wf = true) (a1 : Option Addr) (len1 cap1 : Nat) (x1 : List UInt8) (w1 : Opn.RSlice Oct.RByte 1 W [.slice a1 len1 cap1] x1) :
    Calls Try.prog 3 #[.int .u32 a0, .slice a1 len1 cap1] W fun e w' => e = .returned (.bool true) ∧ Below W.heap.size W w' := by
  obtain ⟨hl, hc, hcm, hn, hE⟩ := bytes_arg w1
  obtain ⟨s, rfl⟩ := u32_arg w0
  have HL := Lib.hid hl
  have HC := Lib.hid (And.intro hc hcm)
  have HN := Lib.hid hn
  have HE := Lib.hid hE
  have HS := Lib.hid (cutB_length x1)
  clear w0 w1 hl hc hcm hn hE
  go_enter Try.func3, Try.ntmps3
  have HQ := Lib.hid (short_any a1 len1 cap1 x1)
  go_wp2_with fail
  refine (awake_any W).mono ?_
  rintro e w1 ⟨rfl, hb⟩
  have HE1 := Lib.hid (row_keep encB_len HE.out hb)
  have HB := Lib.hid hb
  clear hb
  go_wp2_with fail
  refine (HQ.out w1 HL.out HC.out.1 HC.out.2 HN.out HE1.out).mono ?_
  rintro e w2 ⟨rfl, rfl⟩
  go_wp2_with fail
  refine (from_any4 s a1 _ cap1 (cutB x1) w1 rfl HS.out (row_short HE1.out)).mono ?_
  rintro e w2 ⟨rfl, hb⟩
  have HE2 := Lib.hid (row_keep encB_len HE1.out hb)
  have HB2 := Lib.hid (below_keep HB.out hb)
  clear hb
  go_wp2_with fail
  refine (HQ.out w2 HL.out HC.out.1 HC.out.2 HN.out HE2.out).mono ?_
  rintro e w3 ⟨rfl, rfl⟩
  go_wp2_with fail
  refine (rfrom_any s a1 _ cap1 (cutB x1) w2 rfl HS.out (row_short HE2.out)).mono ?_
  rintro e w3 ⟨rfl, rfl⟩
  go_wp2_with fail
  refine (HQ.out w2 HL.out HC.out.1 HC.out.2 HN.out HE2.out).mono ?_
  rintro e w3 ⟨rfl, rfl⟩
  go_wp2_with fail
  refine (of_any4 a1 _ cap1 (cutB x1) w2 rfl HS.out (row_short HE2.out)).mono ?_
  rintro e w3 ⟨rfl, hb⟩
  have HE3 := Lib.hid (row_keep encB_len HE2.out hb)
  have HB3 := Lib.hid (below_keep HB2.out hb)
  clear hb
  go_wp2_with fail
  refine (HQ.out w3 HL.out HC.out.1 HC.out.2 HN.out HE3.out).mono ?_
  rintro e w4 ⟨rfl, rfl⟩
  go_wp2_with fail
  refine (rof_any a1 _ cap1 (cutB x1) w3 rfl HS.out (row_short HE3.out)).mono ?_
  rintro e w4 ⟨rfl, rfl⟩
  go_wp2
  go_ret
  exact ⟨ret_bool (by simp [sumB]), HB3.out⟩

set_option maxRecDepth 100000 in
theorem lifted (os : Os) (started : os.Started) (H : Type) (enc : TypeId × Value → H) :
    ReturnsInHanded {} Try.checked os 3 .any (Rows.checkOfSpec.pre6 enc Try.prog Try.f3 Rows.checkOfRow.domain false) (Rows.checkOfSpec.post enc Try.prog Try.f3 false true false false) := by
  refine returnsInHanded_of_change (C := Try.checked) own started (by kernel_rfl) Try.func3
    (ChangeSpec.witness6 (enc := enc) (C := Try.checked) false ⟨#[], #[.int .u32 0, .slice none 0 0], []⟩ 8 (by kernel_rfl) (by kernel_rfl) (by kernel_rfl) (by kernel_rfl)) ?_
  intro W base args ds gs before hval0 hW hcnd _
  have hval : ∀ (j : Nat) t v, Try.f3.params[j]? = some t → args[j]? = some v → Value.okWide Try.prog W .any base t v := hval0
  have hW' := hW
  obtain ⟨p, q, hA0, hV, rfl, hfz, hnd⟩ := hW
  have hA : DataW.TrodAll enc Try.prog W 0 (fun _ => true) true Try.f3.params.toList args.toList ds p := hA0
  rw [Try.params3] at hA hval
  obtain ⟨v0, vs0, d0, ds0, p0, q0, hargs, rfl, rfl, h0, r0⟩ := trodAll_cons hA
  obtain ⟨v1, vs1, d1, ds1, p1, q1, rfl, rfl, rfl, h1, r1⟩ := trodAll_cons r0
  obtain ⟨rfl, rfl, rfl⟩ := trodAll_nil r1
  obtain rfl : args = #[v0, v1] := by cases args; simp_all
  obtain ⟨rfl, rfl⟩ := trodVars_none hV
  have k0 := h0
  have lt0 : ∀ x ∈ p0, x.block < W.heap.size := by obtain ⟨m, hm⟩ := k0; exact DataW.trod_lt m _ _ _ hm
  obtain ⟨a0, rfl, _, _, w0⟩ := open_int Try.underlying22 (hval 0 22 v0 rfl rfl) h0
  have k1 := h1
  have lt1 : ∀ x ∈ p1, x.block < W.heap.size := by obtain ⟨m, hm⟩ := k1; exact DataW.trod_lt m _ _ _ hm
  obtain ⟨a1, len1, cap1, rfl⟩ := okWide_slice Try.underlying23 (hval 1 23 v1 rfl rfl)
  obtain ⟨x1, w1⟩ := Opn.opens_arg (Oct.opens_bytes) h1
  clear hA0 hval0
  refine (walk W a0 w0 a1 len1 cap1 x1 w1).mono fun e W' ⟨he, bel⟩ => ?_
  subst he
  exact ⟨_, rfl, _, _, _, [], _, [], hW', trodAll_mk1 (shut_bool Try.underlying4 _), (trodAll_cons_mk (Below.trod laidOut (by kernel_rfl) (of_decide_eq_true (by kernel_rfl)) k0 bel lt0) (trodAll_cons_mk (Below.trod laidOut (by kernel_rfl) (of_decide_eq_true (by kernel_rfl)) k1 bel lt1) trodAll_mk0)), rfl, bel.frame _, fun h => by cases h⟩

theorem over : Rows.checkOfRow.holds Try.pinned (OpenSpec.ofChange Rows.checkOfSpec) :=
  OpenClaim.holds_of_wide 3 Try.f3 rfl rfl rfl rfl rfl rfl rfl ⟨rfl, rfl, rfl, rfl, rfl⟩ rfl rfl rfl rfl rfl (by kernel_rfl) Try.func3 (by kernel_rfl)
    (of_decide_eq_true (by kernel_rfl)) (by unfold Func.isWrapper; first | (rw [if_pos (by decide +kernel)]; kernel_rfl) | (rw [if_neg (by decide +kernel)]; exact ⟨rfl, rfl⟩))
    (fun os started H enc _ => lifted os started H enc)

/-- THE STATEMENT -/
theorem proved : Rows.CheckOfSaid := over
#print axioms proved
end Go.Proofs.Ytdpffolahmmdkaa.checkOf
