/- CheckBurst answers true for any bytes, any place and any pattern, each read afterwards as it was: of the first 2000 of the bytes, turned at bits of the pattern within 32 of one another, the sum is the same just if no bit was turned. No condition. -/
import Derived.Test.YtdpffolahmmdkaaRows
import Derived.WalkKit
import Derived.ProofKit
import Derived.OpenShut
import Derived.ShutString
import Derived.ChangeOld
import Derived.Below
import Derived.Test.YtdpffolahmmdkaaOpens
import Derived.Test.YtdpffolahmmdkaaChkLaw
namespace Go.Proofs.Ytdpffolahmmdkaa.checkBurst
open Go.ChangeShapes Go.WideShapes Go.ChangeAt Go.RowKit
open Go.ChangeMaps (open_string shut_string)
set_option linter.unusedVariables false

theorem own : ownKnob Try.prog.godebug = none := by kernel_rfl
theorem laidOut : laidOutB Try.prog = true := by kernel_rfl

open Chk
open Oct
open Kit
open Go.Sort
theorem u16_arg {a : Int} (h : (Lit.int .u16 a).wf = true) : ∃ p : Nat, a = (p : Int) ∧ p < 65536 := by
  simp [Lit.wf, IntKind.min, IntKind.max, IntKind.signed, IntKind.bits] at h
  exact ⟨a.toNat, by omega, by omega⟩
theorem flip_val (y : UInt8) (r : Nat) : Value.int .u8 (Go.bits .xor .u8 (y.toNat : Int) ((128 : Int) / 2 ^ r)) = .int .u8 ((flip1 y r).toNat : Int) := by
  have e : ((128 : Int) / 2 ^ r) = ((128 / 2 ^ r : Nat) : Int) := by rw [Int.natCast_ediv, Int.natCast_pow]; rfl
  rw [e, xor_byte _ _ (Nat.lt_of_le_of_lt (Nat.div_le_self _ _) (by decide))]
  rfl
theorem flip_is {Y : List UInt8} {q : Nat} {y : UInt8} (h : Y[q]? = some y) (r : Nat) : flipAt Y q r = Y.set q (flip1 y r) := by
  unfold flipAt
  rw [show Y.getD q 0 = y by simp [List.getD, h]]
set_option maxHeartbeats 8000000 in
theorem walk (W : World) (a0 : Option Addr) (len0 cap0 : Nat) (x0 : List UInt8) (w0 : Opn.RSlice Oct.RByte 1 W [.slice a0 len0 cap0] x0) (a1 : Int) (w1 : (Lit.int .u16 a1).wf = true) (a2 : Int) (w2 : (Lit.int .u32 a2).wf = true) :
    Calls Try.prog 5 #[.slice a0 len0 cap0, .int .u16 a1, .int .u32 a2] W fun e w' => e = .returned (.bool true) ∧ Below W.heap.size W w' := by
  obtain ⟨hl, hc, hcm, hn, hE⟩ := bytes_arg w0
  obtain ⟨p, rfl, hp⟩ := u16_arg w1
  obtain ⟨t, rfl⟩ := u32_arg w2
  have HE := Lib.hid hE
  have hS0 := cutB_length x0
  have nS : a0 = none → (cutB x0).length = 0 ∧ cap0 = 0 := fun h => ⟨by
    have h1 := (hn h).1
    unfold cutB; rw [List.length_take]; omega, (hn h).2⟩
  have HNS := Lib.hid nS
  have HS := Lib.hid hS0
  have HQ := Lib.hid (fun w h => short_any a0 len0 cap0 x0 w hl hc hcm hn h)
  clear w0 w1 w2 hl hc hcm hn hE hS0 nS
  have hX' : RowB W a0 x0 → RowB W a0 (cutB x0) := row_short
  generalize hX : cutB x0 = X at *
  have HEX := Lib.hid (hX' HE.out)
  clear hX' hX
  by_cases h0 : X.length = 0
  · go_enter Try.func5, Try.ntmps5
    go_wp2_with fail
    refine (HQ.out _ HE.out).mono ?_
    rintro e w1 ⟨rfl, rfl⟩
    go_wp2_with fail
    refine (awake_any W).mono ?_
    rintro e w1 ⟨rfl, hb⟩
    have HB := Lib.hid hb
    clear hb
    go_wp2
    go_ret
    exact ⟨rfl, HB.out⟩
  by_cases ht : t.toNat = 0
  · go_enter Try.func5, Try.ntmps5
    go_wp2_with fail
    refine (HQ.out _ HE.out).mono ?_
    rintro e w1 ⟨rfl, rfl⟩
    go_wp2_with fail
    refine (awake_any W).mono ?_
    rintro e w1 ⟨rfl, hb⟩
    have HB := Lib.hid hb
    clear hb
    go_wp2
    go_ret
    exact ⟨rfl, HB.out⟩
  have hpos : 0 < X.length := by omega
  have hle : X.length ≤ 2000 := HS.out
  go_enter Try.func5, Try.ntmps5
  go_wp2_with fail
  refine (HQ.out _ HE.out).mono ?_
  rintro e w1 ⟨rfl, rfl⟩
  have htt : ((t.toNat : Int) == 0) = false := by rw [beq_eq_false_iff_ne]; omega
  have hll : ((X.length : Int) == 0) = false := by rw [beq_eq_false_iff_ne]; omega
  go_wp2_with (first
    | (at_builtin; refine append_b rfl (.tmp 22) (.tmp 23) rfl W.heap.size _ [] rfl (own_empty W _ (Nat.le_refl _)) a0 X.length cap0 X rfl rfl (row_alloc HEX.out _) HNS.out (by have := HS.out; simp; omega) (by simp) ?_; intro v w1 hown hb; rw [List.nil_append] at hown; have HO := Lib.hid hown; have HB := Lib.hid ((below_alloc W _).trans hb); clear hown hb)
    | fail)
  rw [show (p : Int) % (8 * (X.length : Int)) = ((p % (8 * X.length) : Nat) : Int) by rw [Int.natCast_emod, Int.natCast_mul]; rfl]
  have hk8 : p % (8 * X.length) < 8 * X.length := Nat.mod_lt _ (by omega)
  generalize p % (8 * X.length) = k at *
  obtain ⟨ay, cy, hv, hc1, hc2, hn, hR⟩ := own_row HO.out
  have hay : ay ≠ none := fun h => by
    have := hn h
    omega
  clear hR hn hc1 hc2
  subst hv
  cases ay with
  | none => exact absurd rfl hay
  | some q =>
  have hq : ∃ g, q = ⟨g, 0, none⟩ := by
    have := HO.out
    rcases (own_iff.1 this).2 with ⟨h1, _⟩ | ⟨g, cap, cur, h1, _⟩
    · cases h1
    · injection h1 with h1 _ _
      injection h1 with h1
      exact ⟨g, h1⟩
  obtain ⟨g, rfl⟩ := hq
  clear hay
  go_loopw [10, 11] (fun s i wr => ∃ (j : Nat) (same : Bool) (Y : List UInt8), j ≤ 32 ∧ i = .int .i64 j ∧ s = .bool same ∧ Turned X Y k j same ∧ OwnB wr W.heap.size (.slice (some ⟨g, 0, none⟩) X.length cy) Y ∧ Below W.heap.size W wr) (fun _ i _ => 32 - (intOf i).toNat)
  case atStart => exact ⟨0, true, X, by omega, rfl, rfl, turned_zero X k, HO.out, HB.out⟩
  case round =>
    obtain ⟨j, same, Y, hj, rfl, rfl, hT, hO, hb⟩ := hrel
    have HBr := Lib.hid hb
    have HOr := Lib.hid hO
    have HTr := Lib.hid hT
    have hYl : Y.length = X.length := hT.len
    by_cases hc : j < 32 ∧ k + j < 8 * X.length
    · obtain ⟨hc1, hc2⟩ := hc
      have HT0 := Lib.hid (turned_skip hT)
      have HT1 := Lib.hid (turned_turn hT hc2)
      have hqY : (k + j) / 8 < X.length := by omega
      have hy : ∃ y, Y[(k + j) / 8]? = some y := ⟨_, List.getElem?_eq_getElem (by omega)⟩
      obtain ⟨y, hy⟩ := hy
      have hset := own_set hO hYl hqY hy (flip1 y ((k + j) % 8))
      rw [← flip_is hy, ← flip_val] at hset
      obtain ⟨c0, f0, o1, g1⟩ := hset
      have HO1 := Lib.hid o1
      have HB1 := Lib.hid (hb.trans (grown_below g1 hb.size ((own_iff.1 hO).lt g rfl).1))
      clear hT hO hb hy hYl o1 g1
      go_wp2
      · go_roundw
        case rel => exact ⟨j + 1, false, _, by omega, by go_num, rfl, HT1.out, HO1.out, HB1.out⟩
        case measure => simp [intOf]; omega
      · go_roundw
        case rel => exact ⟨j + 1, same, Y, by omega, by go_num, rfl, HT0.out, HOr.out, HBr.out⟩
        case measure => simp [intOf]; omega
    · have hS := turned_sum hT hj
      have HSum := Lib.hid hS
      have HYl := Lib.hid hYl
      have hR := own_row' hO
      have HR := Lib.hid hR
      have hor : ¬ j < 32 ∨ (j < 32 ∧ ¬ k + j < 8 * X.length) := by omega
      clear hS hT hO hb hYl hR
      rcases hor with h | ⟨h, h'⟩
      all_goals
        go_wp2_with fail
        refine (awake_any wr).mono ?_
        rintro e w3 ⟨rfl, hb⟩
        have HX3 := Lib.hid (row_keep encB_len HEX.out (below_keep HBr.out hb))
        have HY3 := Lib.hid (row_keep encB_len HR.out hb)
        have HB4 := Lib.hid (below_keep HBr.out hb)
        clear hb
        go_wp2_with fail
        refine (of_any a0 _ cap0 X w3 rfl (by omega) HX3.out).mono ?_
        rintro e w4 ⟨rfl, hb⟩
        have HY4 := Lib.hid (row_keep encB_len HY3.out hb)
        have HB5 := Lib.hid (below_keep HB4.out hb)
        clear hb
        go_wp2_with fail
        refine (of_any (some ⟨g, 0, none⟩) _ cy Y w4 HYl.out (by omega) HY4.out).mono ?_
        rintro e w5 ⟨rfl, hb⟩
        have HB6 := Lib.hid (below_keep HB5.out hb)
        clear hb
        go_wp2
        go_ret
        exact ⟨ret_bool (by rw [HSum.out]; simp), HB6.out⟩

set_option maxRecDepth 100000 in
theorem lifted (os : Os) (started : os.Started) (H : Type) (enc : TypeId × Value → H) :
    ReturnsInHanded {} Try.checked os 5 .any (Rows.checkBurstSpec.pre6 enc Try.prog Try.f5 Rows.checkBurstRow.domain false) (Rows.checkBurstSpec.post enc Try.prog Try.f5 false true false false) := by
  refine returnsInHanded_of_change (C := Try.checked) own started (by kernel_rfl) Try.func5
    (ChangeSpec.witness6 (enc := enc) (C := Try.checked) false ⟨#[], #[.slice none 0 0, .int .u16 0, .int .u32 0], []⟩ 8 (by kernel_rfl) (by kernel_rfl) (by kernel_rfl) (by kernel_rfl)) ?_
  intro W base args ds gs before hval0 hW hcnd _
  have hval : ∀ (j : Nat) t v, Try.f5.params[j]? = some t → args[j]? = some v → Value.okWide Try.prog W .any base t v := hval0
  have hW' := hW
  obtain ⟨p, q, hA0, hV, rfl, hfz, hnd⟩ := hW
  have hA : DataW.TrodAll enc Try.prog W 0 (fun _ => true) true Try.f5.params.toList args.toList ds p := hA0
  rw [Try.params5] at hA hval
  obtain ⟨v0, vs0, d0, ds0, p0, q0, hargs, rfl, rfl, h0, r0⟩ := trodAll_cons hA
  obtain ⟨v1, vs1, d1, ds1, p1, q1, rfl, rfl, rfl, h1, r1⟩ := trodAll_cons r0
  obtain ⟨v2, vs2, d2, ds2, p2, q2, rfl, rfl, rfl, h2, r2⟩ := trodAll_cons r1
  obtain ⟨rfl, rfl, rfl⟩ := trodAll_nil r2
  obtain rfl : args = #[v0, v1, v2] := by cases args; simp_all
  obtain ⟨rfl, rfl⟩ := trodVars_none hV
  have k0 := h0
  have lt0 : ∀ x ∈ p0, x.block < W.heap.size := by obtain ⟨m, hm⟩ := k0; exact DataW.trod_lt m _ _ _ hm
  obtain ⟨a0, len0, cap0, rfl⟩ := okWide_slice Try.underlying23 (hval 0 23 v0 rfl rfl)
  obtain ⟨x0, w0⟩ := Opn.opens_arg (Oct.opens_bytes) h0
  have k1 := h1
  have lt1 : ∀ x ∈ p1, x.block < W.heap.size := by obtain ⟨m, hm⟩ := k1; exact DataW.trod_lt m _ _ _ hm
  obtain ⟨a1, rfl, _, _, w1⟩ := open_int Try.underlying31 (hval 1 31 v1 rfl rfl) h1
  have k2 := h2
  have lt2 : ∀ x ∈ p2, x.block < W.heap.size := by obtain ⟨m, hm⟩ := k2; exact DataW.trod_lt m _ _ _ hm
  obtain ⟨a2, rfl, _, _, w2⟩ := open_int Try.underlying22 (hval 2 22 v2 rfl rfl) h2
  clear hA0 hval0
  refine (walk W a0 len0 cap0 x0 w0 a1 w1 a2 w2).mono fun e W' ⟨he, bel⟩ => ?_
  subst he
  exact ⟨_, rfl, _, _, _, [], _, [], hW', trodAll_mk1 (shut_bool Try.underlying4 _), (trodAll_cons_mk (Below.trod laidOut (by kernel_rfl) (of_decide_eq_true (by kernel_rfl)) k0 bel lt0) (trodAll_cons_mk (Below.trod laidOut (by kernel_rfl) (of_decide_eq_true (by kernel_rfl)) k1 bel lt1) (trodAll_cons_mk (Below.trod laidOut (by kernel_rfl) (of_decide_eq_true (by kernel_rfl)) k2 bel lt2) trodAll_mk0))), rfl, bel.frame _, fun h => by cases h⟩

theorem over : Rows.checkBurstRow.holds Try.pinned (OpenSpec.ofChange Rows.checkBurstSpec) :=
  OpenClaim.holds_of_wide 5 Try.f5 rfl rfl rfl rfl rfl rfl rfl ⟨rfl, rfl, rfl, rfl, rfl⟩ rfl rfl rfl rfl rfl (by kernel_rfl) Try.func5 (by kernel_rfl)
    (of_decide_eq_true (by kernel_rfl)) (by unfold Func.isWrapper; first | (rw [if_pos (by decide +kernel)]; kernel_rfl) | (rw [if_neg (by decide +kernel)]; exact ⟨rfl, rfl⟩))
    (fun os started H enc _ => lifted os started H enc)

/-- THE STATEMENT -/
theorem proved : Rows.CheckBurstSaid := over
#print axioms proved
end Go.Proofs.Ytdpffolahmmdkaa.checkBurst
