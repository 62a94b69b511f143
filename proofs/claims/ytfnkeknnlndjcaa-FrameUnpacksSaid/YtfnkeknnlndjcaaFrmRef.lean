/- Frame: the document's own: numbers as bytes, Sectors, Pack. -/
import Derived.Test.YtfnkeknnlndjcaaFrmMath
import Derived.Test.YtfnkeknnlndjcaaOctMade
import Derived.Test.YtfnkeknnlndjcaaChkRef
import Derived.BigFrame
import Derived.BigQuiet
import Derived.Deep.DeepCutAuto
import Derived.Deep.CutBlock
import Derived.WalkLawsBesides
import Derived.LoopTactic
namespace Go.Proofs.Ytfnkeknnlndjcaa.Frm
open Go.RowKit
open Go.Sort
open Kit
open Oct
open Chk
set_option linter.unusedVariables false

/-- Zeros, and behind them the i lowest bytes. -/
theorem be_set (k i n : Nat) (h : i < k) : (List.replicate (k - i) 0 ++ beB i n).set (k - 1 - i) (UInt8.ofNat (n / 256 ^ i)) = List.replicate (k - (i + 1)) 0 ++ beB (i + 1) n := by
  have e : List.replicate (k - i) (0 : UInt8) = List.replicate (k - 1 - i) 0 ++ [0] := by
    rw [show k - i = (k - 1 - i) + 1 by omega, List.replicate_succ']
  rw [e, List.append_assoc, List.set_append_right _ _ (by simp), List.length_replicate, Nat.sub_self, show k - (i + 1) = k - 1 - i by omega]
  rfl

set_option maxHeartbeats 1000000 in
theorem rbe_any (n k : Nat) (hn : n < 18446744073709551616) (hk : k ≤ 8) (w : World) :
    Calls Try.prog 18 #[.int .u64 (n : Nat), .int .i64 (k : Nat)] w fun e w' => e = .returned (.slice (some ⟨w.heap.size, 0, none⟩) k k) ∧ OwnB w' w.heap.size (.slice (some ⟨w.heap.size, 0, none⟩) k k) (beB k n) ∧ Below w.heap.size w w' := by
  have hmk := run_make_b k k rfl (by omega) w
  have HM := Lib.hid (own_made_b w w.heap.size k (Nat.le_refl _) (by unfold maxLen; omega))
  have HB := Lib.hid (below_alloc w (.cells (madeCells #[.int .u8 0] k) 5))
  go_enter Try.func18, Try.ntmps18
  go_wp2_with fail
  clear hmk
  go_loopw [0, 6] (fun nv iv wx => ∃ i : Nat, i ≤ k ∧ iv = .int .i64 i ∧ nv = .int .u64 ((n / 256 ^ i : Nat) : Int) ∧ OwnB wx w.heap.size (.slice (some ⟨w.heap.size, 0, none⟩) k k) (List.replicate (k - i) 0 ++ beB i n) ∧ Below w.heap.size w wx) (fun _ iv _ => k - (intOf iv).toNat)
  case atStart => exact ⟨0, Nat.zero_le _, rfl, by rw [Nat.pow_zero, Nat.div_one], by rw [Nat.sub_zero]; show OwnB _ _ _ (_ ++ []); rw [List.append_nil]; exact HM.out, HB.out⟩
  case round =>
    obtain ⟨i, hi, rfl, rfl, ho, hb⟩ := hrel
    by_cases hlt : i < k
    · have hl : (List.replicate (k - i) 0 ++ beB i n).length = k := by rw [List.length_append, List.length_replicate, beB_length]; omega
      obtain ⟨x, hx⟩ : ∃ x, (List.replicate (k - i) 0 ++ beB i n)[k - 1 - i]? = some x := ⟨_, List.getElem?_eq_getElem (by omega)⟩
      obtain ⟨c0, f0, o1, g1⟩ := own_set ho hl (i := k - 1 - i) (by omega) hx (UInt8.ofNat (n / 256 ^ i))
      rw [be_set k i n hlt] at o1
      have hv : ((n / 256 ^ i : Nat) : Int) % 256 = ((UInt8.ofNat (n / 256 ^ i)).toNat : Int) := by rw [u8_of]; omega
      have hdv : ((n / 256 ^ i : Nat) : Int) / 256 = ((n / 256 ^ (i + 1) : Nat) : Int) := by
        rw [Nat.pow_succ, ← Nat.div_div_eq_div_mul]; omega
      have hlt64 : n / 256 ^ i < 18446744073709551616 := Nat.lt_of_le_of_lt (Nat.div_le_self _ _) hn
      have HO := Lib.hid (And.intro o1 (hb.trans (grown_below g1 hb.size (Nat.le_refl _))))
      have hj : ((k : Int) - 1 - i) = ((k - 1 - i : Nat) : Int) := by omega
      generalize n / 256 ^ i = M at *
      rw [← hv] at HO
      have HDv := Lib.hid hdv
      clear ho hb o1 g1 hv hdv
      go_wp2_with fail
      go_roundw
      case rel => exact ⟨i + 1, by omega, by go_num, by rw [HDv.out], HO.out.1, HO.out.2⟩
      case measure => simp [intOf]; omega
    · obtain rfl : i = k := by omega
      rw [Nat.sub_self] at ho
      have HO := Lib.hid (And.intro (show OwnB wr w.heap.size (.slice (some ⟨w.heap.size, 0, none⟩) i i) (beB i n) from ho) hb)
      clear ho hb
      go_wp2
      go_ret
      exact ⟨rfl, HO.out⟩

theorem rsectors_any (n : Int) (hn : -9223372036854775808 ≤ n ∧ n ≤ 9223372036854775807) (w : World) :
    Calls Try.prog 11 #[.int .i64 n] w fun e w' => e = .returned (.int .i64 (secsI n : Nat)) ∧ w = w' := by
  by_cases h0 : n < 0
  · have e : Hid (secsI n = 0) := Lib.hid (by unfold secsI; rw [if_pos (.inl h0)])
    go_enter Try.func11, Try.ntmps11
    go_wp2
    go_ret
    exact ⟨by rw [e.out]; rfl, rfl⟩
  · by_cases h1 : 65535 < n
    · have e : Hid (secsI n = 0) := Lib.hid (by unfold secsI; rw [if_pos (.inr h1)])
      go_enter Try.func11, Try.ntmps11
      go_wp2
      go_ret
      exact ⟨by rw [e.out]; rfl, rfl⟩
    · obtain ⟨m, rfl⟩ : ∃ m : Nat, n = m := ⟨n.toNat, by omega⟩
      have e : secsI (m : Int) = secs m := by unfold secsI; rw [if_neg (by omega)]; rfl
      rw [e]
      have hs : m + 29 < 24 * secs m + 24 ∧ 24 * secs m ≤ m + 29 := by unfold secs; omega
      generalize secs m = S at *
      clear e
      go_enter Try.func11, Try.ntmps11
      go_wp2_with fail
      go_loop [3] (fun iv => ∃ k : Nat, 1 ≤ k ∧ k ≤ S ∧ iv = .int .i64 k) (fun iv => S - (intOf iv).toNat)
      case atStart => exact ⟨1, by omega, by omega, rfl⟩
      case round =>
        obtain ⟨k, hk1, hk, rfl⟩ := hrel
        by_cases hlt : k < S
        · have hc : (24 : Int) * k < m + 6 := by omega
          go_wp2_with fail
          go_round
          case rel => exact ⟨k + 1, by omega, by omega, by go_num⟩
          case measure => simp [intOf]; omega
        · obtain rfl : k = S := by omega
          have hc : ¬ (24 : Int) * k < m + 6 := by omega
          go_wp2
          go_ret
          exact ⟨rfl, rfl⟩

end Go.Proofs.Ytfnkeknnlndjcaa.Frm
