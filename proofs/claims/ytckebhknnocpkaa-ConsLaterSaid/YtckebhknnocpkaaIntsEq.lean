/- Two lists of numbers held against each other (the document's Ints). -/
import Derived.Test.YtckebhknnocpkaaIntMem
namespace Go.Proofs.Ytckebhknnocpkaa.Tre
set_option maxRecDepth 100000
open Go.RowKit
open Go.Sort
open Kit
set_option linter.unusedVariables false
variable {w w' : World}

/-! ### Lists of numbers -/

set_option maxHeartbeats 4000000 in
theorem ints_any (a1 a2 : Option Addr) (n1 c1 n2 c2 : Nat) (l1 l2 : List Int) (w : World) (h1 : IntsL w a1 n1 c1 l1) (h2 : IntsL w a2 n2 c2 l2) :
    Calls Try.prog 12 #[.slice a1 n1 c1, .slice a2 n2 c2] w fun e w' => e = .returned (.bool (decide (l1 = l2))) ∧ Below w.heap.size w w' := by
  have hm1 : n1 ≤ 9223372036854775807 := by have := h1.cap; have := h1.max; unfold maxLen at this; omega
  have hm2 : n2 ≤ 9223372036854775807 := by have := h2.cap; have := h2.max; unfold maxLen at this; omega
  have HL := Lib.hid (And.intro h1 h2)
  by_cases hn : n1 = n2
  · have HN := Lib.hid (And.intro h1.len (h2.len.trans hn.symm))
    subst hn
    clear h1 h2 hm2
    go_enter Try.func12, Try.ntmps12
    go_wp2_with fail
    go_loopw [5] (fun i wr => ∃ k : Nat, k ≤ n1 ∧ i = .int .i64 (k : Nat) ∧ l1.take k = l2.take k ∧ Below w.heap.size w wr) (fun i _ => n1 - (intOf i).toNat)
    case atStart => exact ⟨0, Nat.zero_le _, rfl, rfl, Below.refl _ _⟩
    case round =>
      obtain ⟨k, hk, rfl, htk, hb⟩ := hrel
      have HB := Lib.hid (And.intro htk hb)
      clear htk hb
      by_cases hlt : k < n1
      · have hk1 : k < l1.length := by rw [HN.out.1]; exact hlt
        have hk2 : k < l2.length := by rw [HN.out.2]; exact hlt
        obtain ⟨b1, o1, rfl⟩ := lst_at HL.out.1 (by omega)
        obtain ⟨b2, o2, rfl⟩ := lst_at HL.out.2 (by omega)
        have q1 := int_cell (lst_keep encI_len HL.out.1 HB.out.2) hk1
        have q2 := int_cell (lst_keep encI_len HL.out.2 HB.out.2) hk2
        have HTk := Lib.hid (And.intro (List.take_succ_eq_append_getElem hk1) (List.take_succ_eq_append_getElem hk2))
        by_cases he : l1[k] = l2[k]
        · have HE := Lib.hid he
          rw [← he] at q2
          generalize l1[k] = y at *
          clear he
          go_wp2_with fail
          go_quiet (fail)
          go_wp2_with fail
          go_roundw
          case rel => exact ⟨k + 1, by omega, by go_num, by rw [HTk.out.1, HTk.out.2, HB.out.1, ← HE.out], below_keep HB.out.2 (below_drewN' _ _)⟩
          case measure => simp [intOf]; omega
        · have HE := Lib.hid he
          have hne : (l1[k] == l2[k]) = false := beq_false_of_ne he
          clear he
          go_wp2_with fail
          go_quiet (fail)
          go_wp2_with fail
          go_ret
          exact ⟨by rw [decide_eq_false (fun e => HE.out (by subst e; rfl))]; rfl, below_keep HB.out.2 (below_drewN' _ _)⟩
      · obtain rfl : k = n1 := by omega
        go_wp2_with fail
        go_ret
        refine ⟨?_, HB.out.2⟩
        have h := HB.out.1
        rw [List.take_of_length_le (by rw [HN.out.1]; exact Nat.le_refl _), List.take_of_length_le (by rw [HN.out.2]; exact Nat.le_refl _)] at h
        rw [decide_eq_true h]; rfl
  · have hd : Hid (decide (l1 = l2) = false) := Lib.hid (decide_eq_false fun e => hn (by rw [← h1.len, ← h2.len, e]))
    have hni : ((n1 : Int) == (n2 : Int)) = false := beq_false_of_ne (by omega)
    clear h1 h2
    go_enter Try.func12, Try.ntmps12
    go_wp2_with fail
    go_ret
    exact ⟨by rw [hd.out]; rfl, Below.refl _ _⟩
end Go.Proofs.Ytckebhknnocpkaa.Tre
