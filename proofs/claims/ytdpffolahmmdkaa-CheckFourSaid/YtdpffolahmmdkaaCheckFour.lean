/- CheckFour answers true for any bytes and any two numbers, each read afterwards as it was: behind the first 2000 of the bytes the numbers' four bytes have the same sum just if they are the same. No condition. -/
import Derived.Test.YtdpffolahmmdkaaRows
import Derived.WalkKit
import Derived.ProofKit
import Derived.OpenShut
import Derived.ShutString
import Derived.ChangeOld
import Derived.Below
import Derived.Test.YtdpffolahmmdkaaOpens
import Derived.Test.YtdpffolahmmdkaaChkLaw
namespace Go.Proofs.Ytdpffolahmmdkaa.checkFour
open Go.ChangeShapes Go.WideShapes Go.ChangeAt Go.RowKit
open Go.ChangeMaps (open_string shut_string)
set_option linter.unusedVariables false

theorem own : ownKnob Try.prog.godebug = none := by kernel_rfl
theorem laidOut : laidOutB Try.prog = true := by kernel_rfl

open Chk
open Oct
open Kit
open Go.Sort
theorem four_nil {w : World} {base c : Nat} {a : Option Addr} {X : List UInt8} (h : a = none → c = 0) (hown : OwnB w base (.slice a X.length c) X) : a = none → X.length = 0 ∧ c = 0 := fun ha => ⟨by
  obtain ⟨a', c', he, h1, _, h3, _⟩ := own_row hown
  injection he with e1 e2 e3
  subst e1 e3
  have := h ha
  omega, h ha⟩
theorem two_made {w1 w2 : World} {base c : Nat} {v : Value} {X : List UInt8} (hv : OwnB w1 base v X) (hg : (w1.alloc (.cells #[] 5)).grownBy w2 (Value.slice (some ⟨w1.heap.size, 0, none⟩) 0 c).ownBlock) :
    OwnB w2 base v X ∧ ∀ u' : Value, (u'.ownBlock = (Value.slice (some ⟨w1.heap.size, 0, none⟩) 0 c).ownBlock ∨ u'.ownBlock = some (w1.heap.size + 1)) → Two.Apart v u' := by
  have hne : v.ownBlock = none ∨ v.ownBlock ≠ (Value.slice (some ⟨w1.heap.size, 0, none⟩) 0 c).ownBlock := by
    by_cases h0 : v.ownBlock = none
    · exact .inl h0
    · refine .inr fun e => ?_
      have := (World.ownsRow.lt hv _ (e.trans rfl)).2
      simp at this
  refine ⟨Two.owns_kept (owns_alloc hv _) hg hne, fun u' hu => Two.apart_symm ?_⟩
  by_cases h0 : v.ownBlock = none
  · exact .inl h0
  · refine .inr fun e => ?_
    rcases hu with hu | hu
    · exact (hne.resolve_left h0) (e.trans hu)
    · have := (World.ownsRow.lt hv _ (e.trans hu)).2
      omega
set_option maxHeartbeats 8000000 in
theorem walk (W : World) (a0 : Option Addr) (len0 cap0 : Nat) (x0 : List UInt8) (w0 : Opn.RSlice Oct.RByte 1 W [.slice a0 len0 cap0] x0) (a1 : Int) (w1 : (Lit.int .u32 a1).wf = true) (a2 : Int) (w2 : (Lit.int .u32 a2).wf = true) :
    Calls Try.prog 6 #[.slice a0 len0 cap0, .int .u32 a1, .int .u32 a2] W fun e w' => e = .returned (.bool true) ∧ Below W.heap.size W w' := by
  obtain ⟨hl, hc, hcm, hn, hE⟩ := bytes_arg w0
  obtain ⟨m, rfl⟩ := u32_arg w1
  obtain ⟨n, rfl⟩ := u32_arg w2
  have HE := Lib.hid hE
  have hS0 := cutB_length x0
  have nS : a0 = none → (cutB x0).length = 0 ∧ cap0 = 0 := fun h => ⟨by
    have h1 := (hn h).1
    unfold cutB; rw [List.length_take]; omega, (hn h).2⟩
  have HNS := Lib.hid nS
  have HS := Lib.hid hS0
  have HQ := Lib.hid (fun w h => short_any a0 len0 cap0 x0 w hl hc hcm hn h)
  clear w0 w1 w2 hl hc hcm hn hE hS0 nS
  go_enter Try.func6, Try.ntmps6
  go_wp2_with fail
  refine (HQ.out _ (row_alloc HE.out _)).mono ?_
  rintro e w1 ⟨rfl, rfl⟩
  generalize hX : cutB x0 = X at *
  have HL := Lib.hid HS.out
  go_wp2_with (first
    | (at_builtin; refine append_b rfl (.tmp 10) (.tmp 12) rfl W.heap.size _ [] rfl (own_empty W _ (Nat.le_refl _)) a0 _ cap0 X rfl rfl (row_alloc (hX ▸ row_short HE.out) _) HNS.out (by have := HS.out; simp; omega) (by simp) ?_; intro v w1 hown hb; rw [List.nil_append] at hown; obtain ⟨ax, cx, hv, _, _, hnx, hRx⟩ := own_row hown; subst hv; have HX := Lib.hid hRx; have HNX := Lib.hid hnx; have HO := Lib.hid hown; have HB := Lib.hid ((below_alloc W _).trans hb); clear hown hb hRx hnx)
    | (at_builtin; refine append_b2 rfl (.tmp 14) (.tmp 15) rfl W.heap.size _ [] rfl (own_empty w1 _ HB.out.size) ax X.length cx X rfl rfl (row_alloc HX.out _) ?c1 ?c2 ?c3 ?c4)
    | fail)
  case c1 => exact four_nil HNX.out HO.out
  case c2 => have := HS.out; simp; omega
  case c3 => exact Nat.le_trans HB.out.size (by simp)
  intro u w2 hown hg hw
  have hb2 := Two.below_grown (own_empty w1 W.heap.size HB.out.size) hg (Nat.le_trans HB.out.size (by simp))
  have h2 := two_made HO.out hg
  have HV := Lib.hid h2.1
  have HA := Lib.hid (h2.2 u hw)
  have HU := Lib.hid hown
  have HB2 := Lib.hid ((HB.out.alloc HB.out.size _).trans hb2)
  clear hown hg hw hb2 h2
  go_wp2_with fail
  go_loopw [7, 8, 9] (fun v u i wr => ∃ (k : Nat) (L M : List UInt8), k ≤ 4 ∧ L ++ beB k m.toNat = X ++ beB 4 m.toNat ∧ M ++ beB k n.toNat = X ++ beB 4 n.toNat ∧ i = .int .i64 ((k : Int) - 1) ∧ OwnB wr W.heap.size v L ∧ OwnB wr W.heap.size u M ∧ Two.Apart v u ∧ Below W.heap.size W wr) (fun _ _ i _ => (intOf i + 1).toNat)
  case atStart => exact ⟨4, X, X, Nat.le_refl _, rfl, rfl, rfl, HV.out, HU.out, HA.out, HB2.out⟩
  case round =>
    obtain ⟨k, L, M, hk, hL, hM, rfl, hv, hu, ha, hb⟩ := hrel
    cases k with
    | zero =>
      have hL4 : L = X ++ beB 4 m.toNat := by simpa [beB] using hL
      have hM4 : M = X ++ beB 4 n.toNat := by simpa [beB] using hM
      have HLM := Lib.hid (And.intro hL4 hM4)
      have hLl : L.length ≤ 4000 := by rw [hL4, List.length_append, beB_length]; have := HS.out; omega
      have hMl : M.length ≤ 4000 := by rw [hM4, List.length_append, beB_length]; have := HS.out; omega
      have HLl := Lib.hid (And.intro hLl hMl)
      clear hL hM hL4 hM4 hLl hMl
      obtain ⟨av, cv, rfl, _, _, _, hRv⟩ := own_row hv
      obtain ⟨au, cu, rfl, _, _, _, hRu⟩ := own_row hu
      have HR := Lib.hid (And.intro hRv hRu)
      have HB3 := Lib.hid hb
      clear hv hu ha hb hRv hRu
      go_wp2_with fail
      refine (awake_any wr).mono ?_
      rintro e w3 ⟨rfl, hb⟩
      have HR3 := Lib.hid (And.intro (row_keep encB_len HR.out.1 hb) (row_keep encB_len HR.out.2 hb))
      have HB4 := Lib.hid (below_keep HB3.out hb)
      clear hb
      go_wp2_with fail
      refine (of_any av _ cv L w3 rfl HLl.out.1 HR3.out.1).mono ?_
      rintro e w4 ⟨rfl, hb⟩
      have HR4 := Lib.hid (row_keep encB_len HR3.out.2 hb)
      have HB5 := Lib.hid (below_keep HB4.out hb)
      clear hb
      go_wp2_with fail
      refine (of_any au _ cu M w4 rfl HLl.out.2 HR4.out).mono ?_
      rintro e w5 ⟨rfl, hb⟩
      have HB6 := Lib.hid (below_keep HB5.out hb)
      clear hb
      go_wp2
      go_ret
      refine ⟨ret_bool ?_, HB6.out⟩
      rw [HLM.out.1, HLM.out.2, four_is]
      simp
    | succ k =>
      have hlL : L.length ≤ 2004 := by have := congrArg List.length hL; have := HL.out; rw [List.length_append, List.length_append, beB_length, beB_length] at *; omega
      have hlM : M.length ≤ 2004 := by have := congrArg List.length hM; have := HL.out; rw [List.length_append, List.length_append, beB_length, beB_length] at *; omega
      have HLl := Lib.hid (And.intro hlL hlM)
      have HL' : Hid ((L ++ [UInt8.ofNat (m.toNat / 2 ^ (8 * k))]) ++ beB k m.toNat = X ++ beB 4 m.toNat) := Lib.hid (by rw [← hL, be_shift]; simp)
      have HM' : Hid ((M ++ [UInt8.ofNat (n.toNat / 2 ^ (8 * k))]) ++ beB k n.toNat = X ++ beB 4 n.toNat) := Lib.hid (by rw [← hM, be_shift]; simp)
      have HVr := Lib.hid hv
      have HUr := Lib.hid hu
      have HAr := Lib.hid ha
      have HBr := Lib.hid hb
      clear hlL hlM hL hM hv hu ha hb
      go_wp2_with (first
        | (at_builtin; refine append_b2 rfl (.tmp 21) (.tmp 28) rfl W.heap.size u7 L rfl (owns_alloc HVr.out _) (some ⟨wr.heap.size, 0, none⟩) 1 1 [UInt8.ofNat (m.toNat / 2 ^ (8 * k))] rfl rfl (row_one wr (byte_val _ _)) (fun h => by cases h) (by have := HLl.out; omega) (Nat.le_trans HBr.out.size (by simp)) ?_; intro v3 w3 hown hg hw; have HV3 := Lib.hid hown; have HU3 := Lib.hid (Two.owns_kept (owns_alloc HUr.out _) hg HAr.out); have HA3 := Lib.hid (Two.apart_kept (owns_alloc HUr.out _) HAr.out hw); have HB3 := Lib.hid ((HBr.out.alloc HBr.out.size _).trans (Two.below_grown (owns_alloc HVr.out _) hg (Nat.le_trans HBr.out.size (by simp)))); clear hown hg hw)
        | (at_builtin; refine append_b2 rfl (.tmp 30) (.tmp 37) rfl W.heap.size u8 M rfl (owns_alloc HU3.out _) (some ⟨w3.heap.size, 0, none⟩) 1 1 [UInt8.ofNat (n.toNat / 2 ^ (8 * k))] rfl rfl (row_one w3 (byte_val _ _)) (fun h => by cases h) (by have := HLl.out; omega) (Nat.le_trans HB3.out.size (by simp)) ?_; intro u4 w4 hown hg hw; have HU4 := Lib.hid hown; have HV4 := Lib.hid (Two.owns_kept (owns_alloc HV3.out _) hg (Two.apart_symm HA3.out)); have HA4 := Lib.hid (Two.apart_symm (Two.apart_kept (owns_alloc HV3.out _) (Two.apart_symm HA3.out) hw)); have HB4 := Lib.hid ((HB3.out.alloc HB3.out.size _).trans (Two.below_grown (owns_alloc HU3.out _) hg (Nat.le_trans HB3.out.size (by simp)))); clear hown hg hw)
        | fail)
      go_roundw
      case rel => exact ⟨k, _, _, by omega, HL'.out, HM'.out, by go_num, HV4.out, HU4.out, HA4.out, HB4.out⟩
      case measure => simp [intOf]

set_option maxRecDepth 100000 in
theorem lifted (os : Os) (started : os.Started) (H : Type) (enc : TypeId × Value → H) :
    ReturnsInHanded {} Try.checked os 6 .any (Rows.checkFourSpec.pre6 enc Try.prog Try.f6 Rows.checkFourRow.domain false) (Rows.checkFourSpec.post enc Try.prog Try.f6 false true false false) := by
  refine returnsInHanded_of_change (C := Try.checked) own started (by kernel_rfl) Try.func6
    (ChangeSpec.witness6 (enc := enc) (C := Try.checked) false ⟨#[], #[.slice none 0 0, .int .u32 0, .int .u32 0], []⟩ 8 (by kernel_rfl) (by kernel_rfl) (by kernel_rfl) (by kernel_rfl)) ?_
  intro W base args ds gs before hval0 hW hcnd _
  have hval : ∀ (j : Nat) t v, Try.f6.params[j]? = some t → args[j]? = some v → Value.okWide Try.prog W .any base t v := hval0
  have hW' := hW
  obtain ⟨p, q, hA0, hV, rfl, hfz, hnd⟩ := hW
  have hA : DataW.TrodAll enc Try.prog W 0 (fun _ => true) true Try.f6.params.toList args.toList ds p := hA0
  rw [Try.params6] at hA hval
  obtain ⟨v0, vs0, d0, ds0, p0, q0, hargs, rfl, rfl, h0, r0⟩ := trodAll_cons hA
  obtain ⟨v1, vs1, d1, ds1, p1, q1, rfl, rfl, rfl, h1, r1⟩ := trodAll_cons r0
  obtain ⟨v2, vs2, d2, ds2, p2, q2, rfl, rfl, rfl, h2, r2⟩ := trodAll_cons r1
  obtain ⟨rfl, rfl, rfl⟩ := trodAll_nil r2
  obtain rfl : args = #[v0, v1, v2] := by cases args; simp_all
  obtain ⟨rfl, rfl⟩ := trodVars_none hV
  have k0 := h0
  have lt0 : ∀ x ∈ p0, x.block < W.heap.size := by obtain ⟨m, hm⟩ := k0; exact DataW.trod_lt m _ _ _ hm
  obtain ⟨a0, len0, cap0, rfl⟩ := okWide_slice Try.underlying23 (hval 0 23 v0 rfl rfl)
  obtain ⟨x0, w0⟩ := Opn.opens_arg (Oct.opens_bytes) h0
  have k1 := h1
  have lt1 : ∀ x ∈ p1, x.block < W.heap.size := by obtain ⟨m, hm⟩ := k1; exact DataW.trod_lt m _ _ _ hm
  obtain ⟨a1, rfl, _, _, w1⟩ := open_int Try.underlying22 (hval 1 22 v1 rfl rfl) h1
  have k2 := h2
  have lt2 : ∀ x ∈ p2, x.block < W.heap.size := by obtain ⟨m, hm⟩ := k2; exact DataW.trod_lt m _ _ _ hm
  obtain ⟨a2, rfl, _, _, w2⟩ := open_int Try.underlying22 (hval 2 22 v2 rfl rfl) h2
  clear hA0 hval0
  refine (walk W a0 len0 cap0 x0 w0 a1 w1 a2 w2).mono fun e W' ⟨he, bel⟩ => ?_
  subst he
  exact ⟨_, rfl, _, _, _, [], _, [], hW', trodAll_mk1 (shut_bool Try.underlying4 _), (trodAll_cons_mk (Below.trod laidOut (by kernel_rfl) (of_decide_eq_true (by kernel_rfl)) k0 bel lt0) (trodAll_cons_mk (Below.trod laidOut (by kernel_rfl) (of_decide_eq_true (by kernel_rfl)) k1 bel lt1) (trodAll_cons_mk (Below.trod laidOut (by kernel_rfl) (of_decide_eq_true (by kernel_rfl)) k2 bel lt2) trodAll_mk0))), rfl, bel.frame _, fun h => by cases h⟩

theorem over : Rows.checkFourRow.holds Try.pinned (OpenSpec.ofChange Rows.checkFourSpec) :=
  OpenClaim.holds_of_wide 6 Try.f6 rfl rfl rfl rfl rfl rfl rfl ⟨rfl, rfl, rfl, rfl, rfl⟩ rfl rfl rfl rfl rfl (by kernel_rfl) Try.func6 (by kernel_rfl)
    (of_decide_eq_true (by kernel_rfl)) (by unfold Func.isWrapper; first | (rw [if_pos (by decide +kernel)]; kernel_rfl) | (rw [if_neg (by decide +kernel)]; exact ⟨rfl, rfl⟩))
    (fun os started H enc _ => lifted os started H enc)

/-- THE STATEMENT -/
theorem proved : Rows.CheckFourSaid := over
#print axioms proved
end Go.Proofs.Ytdpffolahmmdkaa.checkFour
