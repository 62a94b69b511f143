/- Tree: the landed Over, as it runs. -/
import Derived.Test.YtpciijihedlheaaTreLUs
namespace Go.Proofs.Ytpciijihedlheaa.Tre
set_option maxRecDepth 100000
open Go.RowKit
open Go.Sort
open Kit
open Mon
set_option linter.unusedVariables false
variable {w w' : World}

set_option maxHeartbeats 4000000 in
theorem over_any (l : List Fd) (hok : ∀ x ∈ l, x.ok) (a : Option Addr) (n c : Nat) (al : List Al) (hoka : ∀ x ∈ al, x.ok) (a2 : Option Addr) (n2 c2 : Nat) (w : World) (h : Funds w a n c l) (hn : n ≤ 100) (h2 : Allocs w a2 n2 c2 al) (hn2 : n2 ≤ 100) :
    Calls Try.prog 16 #[.slice a n c, .slice a2 n2 c2] w fun e w' => e = .returned (.int .i64 (over l al)) ∧ Below w.heap.size w w' := by
  have hll := h.len
  have HL := Lib.hid (And.intro h (And.intro h2 (And.intro hok (And.intro hoka hll))))
  clear h h2 hok hoka hll
  go_enter Try.func16, Try.ntmps16
  go_wp2_with fail
  go_loopw [5, 6, 9] (fun _ _ i wr => ∃ k : Nat, k ≤ n ∧ i = .int .i64 (k : Nat) ∧ over l al = overFrom l al (l.length - k) k ∧ Below w.heap.size w wr) (fun _ _ i _ => n - (intOf i).toNat)
  case atStart => exact ⟨0, Nat.zero_le _, rfl, rfl, Below.refl _ _⟩
  case round =>
    obtain ⟨k, hk, rfl, ho, hb⟩ := hrel
    have HO := Lib.hid (And.intro ho hb)
    clear ho hb
    by_cases hlt : k < n
    · have hkl : k < l.length := by rw [HL.out.2.2.2.2]; exact hlt
      obtain ⟨b, o, rfl⟩ := lst_at HL.out.1 (by omega)
      obtain ⟨q0, q1, q2⟩ := fund_cells (lst_keep encF_len HL.out.1 HO.out.2) hkl
      have hget := List.getElem?_eq_getElem hkl
      generalize l[k] = x at *
      obtain ⟨nm, pr, lm⟩ := x
      simp only at q0 q1 q2
      have HX := Lib.hid (And.intro hget (overFrom_step (al := al) hget))
      obtain ⟨g0, g1, g2⟩ := boxed_fund wr nm pr lm
      have HW := Lib.hid (below_alloc wr (.cells #[.string nm, .int .i64 pr, .int .i64 lm] 40))
      have hov : overAt l al k ⟨nm, pr, lm⟩ = (decide (0 < lm) && (decide (useE l al k ≠ 0) || decide (lm < useN l al k))) := rfl
      have HV := Lib.hid hov
      clear hov hget
      by_cases h0 : 0 < lm
      · have HV2 := Lib.hid (show overAt l al k ⟨nm, pr, lm⟩ = (decide (useE l al k ≠ 0) || decide (lm < useN l al k)) by rw [HV.out, decide_eq_true h0, Bool.true_and])
        cases hq : (decide (useE l al k ≠ 0) || decide (lm < useN l al k)) with
        | true =>
          have HD := Lib.hid (show over l al = (k : Int) by rw [HO.out.1, HX.out.2, HV2.out, hq, if_pos rfl])
          have HQ := Lib.hid hq
          clear hq
          go_wp2_with fail
          refine (exceeds_is l HL.out.2.2.1 _ n c al HL.out.2.2.2.1 a2 n2 c2 _ (lst_keep encF_len HL.out.1 (below_keep HO.out.2 HW.out)) hn (lst_keep encL_len HL.out.2.1 (below_keep HO.out.2 HW.out)) hn2 k ⟨nm, pr, lm⟩ HX.out.1 true HQ.out).mono ?_
          rintro e w1 ⟨rfl, hb1⟩
          have HO1 := Lib.hid (below_keep (below_keep HO.out.2 HW.out) hb1)
          clear hb1 q0 q1 q2 g0 g1 g2
          go_wp2_with fail
          go_ret
          exact ⟨by rw [HD.out]; rfl, HO1.out⟩
        | false =>
          have HD := Lib.hid (show over l al = overFrom l al (l.length - (k + 1)) (k + 1) by rw [HO.out.1, HX.out.2, HV2.out, hq]; rfl)
          have HQ := Lib.hid hq
          clear hq
          go_wp2_with fail
          refine (exceeds_is l HL.out.2.2.1 _ n c al HL.out.2.2.2.1 a2 n2 c2 _ (lst_keep encF_len HL.out.1 (below_keep HO.out.2 HW.out)) hn (lst_keep encL_len HL.out.2.1 (below_keep HO.out.2 HW.out)) hn2 k ⟨nm, pr, lm⟩ HX.out.1 false HQ.out).mono ?_
          rintro e w1 ⟨rfl, hb1⟩
          have HO1 := Lib.hid (below_keep (below_keep HO.out.2 HW.out) hb1)
          clear hb1 q0 q1 q2 g0 g1 g2
          go_wp2_with fail
          go_roundw
          case rel => exact ⟨k + 1, by omega, by go_num, HD.out, HO1.out⟩
          case measure => simp [intOf]; omega
      · have HD := Lib.hid (show over l al = overFrom l al (l.length - (k + 1)) (k + 1) by rw [HO.out.1, HX.out.2, HV.out, decide_eq_false h0]; rfl)
        go_wp2_with fail
        go_roundw
        case rel => exact ⟨k + 1, by omega, by go_num, HD.out, below_keep HO.out.2 HW.out⟩
        case measure => simp [intOf]; omega
    · obtain rfl : k = n := by omega
      have HD := Lib.hid (show over l al = -1 by rw [HO.out.1, overFrom_end (by rw [HL.out.2.2.2.2]; exact Nat.le_refl _)])
      go_wp2_with fail
      go_ret
      exact ⟨by rw [HD.out]; rfl, HO.out.2⟩
end Go.Proofs.Ytpciijihedlheaa.Tre
