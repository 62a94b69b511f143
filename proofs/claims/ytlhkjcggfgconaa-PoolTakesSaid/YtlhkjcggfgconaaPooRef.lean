/- Pool: the document's All, Has, Count, Take. -/
import Derived.Test.YtlhkjcggfgconaaPooMem
namespace Go.Proofs.Ytlhkjcggfgconaa.Poo
set_option maxRecDepth 100000
open Go.RowKit
open Go.Sort
open Kit
open Tre (inI)
set_option linter.unusedVariables false

theorem and_one (x : Int) : Go.bits .and .i64 x 1 = x % 2 := by
  unfold Go.bits
  have h1 : BitVec.ofInt IntKind.i64.bits 1 = 1#64 := rfl
  have h2 : ((BitVec.ofInt 64 x &&& 1#64).toNat : Int) = x % 2 := by
    rw [BitVec.toNat_and, BitVec.toNat_ofInt, show (1#64 : BitVec 64).toNat = 1 from rfl, Nat.and_one_is_mod]
    omega
  show IntKind.i64.wrap _ = _
  rw [h1]
  show IntKind.i64.wrap (((BitVec.ofInt 64 x &&& 1#64).toNat : Nat) : Int) = _
  rw [h2]
  have : 0 ≤ x % 2 ∧ x % 2 < 2 := by omega
  generalize x % 2 = y at this
  simp [IntKind.wrap_i64]
  omega
theorem rhas_any (W : World) (m : Int) {k : Nat} (hk : k < 32) : Calls Try.prog 14 #[.int .i64 m, .int .i64 (k : Nat)] W fun e W' => e = .returned (.bool ((lo m).testBit k)) ∧ W = W' := by
  have hb : (Go.bits .and .i64 (m / 2 ^ k) 1 == 1) = (lo m).testBit k := by
    rw [and_one, lo_bit m hk]; rfl
  have HB := Lib.hid hb
  clear hb
  go_enter Try.func14, Try.ntmps14
  go_wp2_with fail
  go_ret
  exact ⟨by rw [← HB.out]; rfl, rfl⟩
theorem rcount_any (W : World) (m : Int) : Calls Try.prog 10 #[.int .i64 m] W fun e W' => e = .returned (.int .i64 (cnt (lo m) : Nat)) ∧ W = W' := by
  go_enter Try.func10, Try.ntmps10
  go_wp2_with fail
  go_loop [3, 4] (fun v iv => ∃ k : Nat, k ≤ 32 ∧ iv = .int .i64 (k : Nat) ∧ v = .int .i64 (cntTo (lo m) k : Nat)) (fun _ iv => 32 - (intOf iv).toNat)
  case atStart => exact ⟨0, by omega, rfl, rfl⟩
  case round =>
    obtain ⟨k, hk, rfl, rfl⟩ := hrel
    obtain ⟨c, hc⟩ : ∃ c, c = cntTo (lo m) k := ⟨_, rfl⟩
    have hcl := cnt_le (lo m) k
    rw [← hc] at hcl ⊢
    by_cases hlt : k < 32
    · have HH := Lib.hid (rhas_any W m hlt)
      have hn : cntTo (lo m) (k + 1) = c + (if (lo m).testBit k then 1 else 0) := by rw [cntTo, hc]
      have HN := Lib.hid hn
      clear hn hc
      go_wp2_with fail
      refine HH.out.mono ?_
      rintro e w1 ⟨rfl, rfl⟩
      cases hb : (lo m).testBit k with
      | true =>
        rw [hb] at HN
        clear hb HH
        go_wp2_with fail
        go_round
        case rel => exact ⟨k + 1, by omega, by go_num, by rw [HN.out]; go_num⟩
        case measure => simp [intOf]; omega
      | false =>
        rw [hb] at HN
        clear hb HH
        go_wp2_with fail
        go_round
        case rel => exact ⟨k + 1, by omega, by go_num, by rw [HN.out]; rfl⟩
        case measure => simp [intOf]; omega
    · obtain rfl : k = 32 := by omega
      have HC := Lib.hid hc
      clear hc
      go_wp2_with fail
      go_ret
      exact ⟨by rw [HC.out]; rfl, rfl⟩
end Go.Proofs.Ytlhkjcggfgconaa.Poo
