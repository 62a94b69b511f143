/- Pool: bits of numbers of 64 bits. -/
import Derived.Test.YtlhkjcggfgconaaPooMath
import Derived.Laws.BitsAllLaws
namespace Go.Proofs.Ytlhkjcggfgconaa.Poo
open Go
set_option linter.unusedVariables false

theorem of64 (a : Nat) (h : a < 18446744073709551616) : (BitVec.ofInt 64 (a : Int)).toNat = a := by
  rw [BitVec.ofInt_natCast, BitVec.toNat_ofNat]; exact Nat.mod_eq_of_lt h
theorem wrap_nat {n : Nat} (h : n < 4294967296) : IntKind.i64.wrap (n : Int) = (n : Int) := by
  simp [IntKind.wrap_i64]
  omega
theorem and64 {a b : Nat} (ha : a < 4294967296) (hb : b < 4294967296) : bits .and .i64 (a : Int) (b : Int) = ((a &&& b : Nat) : Int) := by
  have hx : a &&& b < 2 ^ 32 := Nat.and_lt_two_pow _ (by omega)
  show IntKind.i64.wrap ((BitVec.ofInt 64 (a : Int) &&& BitVec.ofInt 64 (b : Int)).toNat : Int) = _
  rw [BitVec.toNat_and, of64 a (by omega), of64 b (by omega), wrap_nat (by omega)]
theorem or64 {a b : Nat} (ha : a < 4294967296) (hb : b < 4294967296) : bits .or .i64 (a : Int) (b : Int) = ((a ||| b : Nat) : Int) := by
  have hx : a ||| b < 2 ^ 32 := Nat.or_lt_two_pow (by omega) (by omega)
  show IntKind.i64.wrap ((BitVec.ofInt 64 (a : Int) ||| BitVec.ofInt 64 (b : Int)).toNat : Int) = _
  rw [BitVec.toNat_or, of64 a (by omega), of64 b (by omega), wrap_nat (by omega)]
/-- The one without the other. -/
def less (u a : Nat) : Nat := u &&& (18446744073709551615 - a)
theorem less_bit (u a : Nat) (ha : a < 4294967296) (j : Nat) (hj : j < 32) : (less u a).testBit j = (u.testBit j && !a.testBit j) := by
  unfold less
  rw [Nat.testBit_and]
  have h : (18446744073709551615 - a).testBit j = !a.testBit j := by
    have h1 := Nat.testBit_two_pow_sub_succ (n := 64) (x := a) (by omega) j
    rw [show 2 ^ 64 - (a + 1) = 18446744073709551615 - a by omega] at h1
    rw [h1]
    simp
    omega
  rw [h]
theorem less_lt {u a : Nat} (h : u < 4294967296) : less u a < 4294967296 := Nat.lt_of_le_of_lt Nat.and_le_left h
theorem notand64 {a b : Nat} (ha : a < 4294967296) (hb : b < 4294967296) : bits .andNot .i64 (a : Int) (b : Int) = (less a b : Nat) := by
  have hx := less_lt (a := b) ha
  show IntKind.i64.wrap ((BitVec.ofInt 64 (a : Int) &&& ~~~BitVec.ofInt 64 (b : Int)).toNat : Int) = _
  rw [BitVec.toNat_and, BitVec.toNat_not, of64 a (by omega), of64 b (by omega)]
  show IntKind.i64.wrap ((less a b : Nat) : Int) = _
  rw [wrap_nat hx]
theorem bits_eq {a b : Nat} (ha : a < 4294967296) (hb : b < 4294967296) (h : ∀ j, j < 32 → a.testBit j = b.testBit j) : a = b := by
  refine Nat.eq_of_testBit_eq fun j => ?_
  by_cases hj : j < 32
  · exact h j hj
  · have hp : (4294967296 : Nat) ≤ 2 ^ j := show 2 ^ 32 ≤ 2 ^ j from Nat.pow_le_pow_right (by decide) (by omega)
    rw [Nat.testBit_lt_two_pow (by omega), Nat.testBit_lt_two_pow (by omega)]
theorem odd_part : ∀ (n k : Nat), 0 < n → n < 2 ^ k → ∃ p q, p < k ∧ n = 2 ^ p * (2 * q + 1)
  | n, 0, h, hk => by simp at hk; omega
  | n, k + 1, h, hk => by
    by_cases ho : n % 2 = 1
    · exact ⟨0, n / 2, by omega, by omega⟩
    · obtain ⟨p, q, hp, e⟩ := odd_part (n / 2) k (by omega) (by rw [Nat.pow_succ] at hk; omega)
      refine ⟨p + 1, q, by omega, ?_⟩
      rw [Nat.pow_succ, Nat.mul_right_comm, ← e]
      omega
theorem low64 {R : Nat} (h0 : 0 < R) (h : R < 4294967296) : ∃ p, p < 32 ∧ R.testBit p = true ∧ ((2 ^ p : Nat) : Int) ≤ bits .and .i64 (R : Int) (-(R : Int)) := by
  obtain ⟨p, q, hp, e⟩ := odd_part R 32 h0 (by simpa using h)
  have hpow : 0 < 2 ^ p := Nat.pow_pos (by decide)
  have hb1 : R.testBit p = true := by
    rw [Nat.testBit_eq_decide_div_mod_eq, e, Nat.mul_div_cancel_left _ hpow]
    simp
  have hneg : (BitVec.ofInt 64 (-(R : Int))).toNat = 18446744073709551616 - R := by
    rw [BitVec.toNat_ofInt]
    omega
  have hb2 : (18446744073709551616 - R).testBit p = true := by
    obtain ⟨d, hd⟩ : ∃ d, 64 = p + 1 + d := ⟨63 - p, by omega⟩
    have e64 : 18446744073709551616 = 2 ^ p * (2 * 2 ^ d) := by
      rw [show (18446744073709551616 : Nat) = 2 ^ 64 from rfl, hd, Nat.pow_add, Nat.pow_add, Nat.mul_assoc]
    have hq : 2 * q + 1 < 2 * 2 ^ d := by
      have h1 : 2 ^ p * (2 * q + 1) < 2 ^ p * (2 * 2 ^ d) := by rw [← e, ← e64]; omega
      exact Nat.lt_of_mul_lt_mul_left h1
    rw [Nat.testBit_eq_decide_div_mod_eq, e64, e, ← Nat.mul_sub, Nat.mul_div_cancel_left _ hpow]
    simp
    omega
  refine ⟨p, hp, hb1, ?_⟩
  have hx : R &&& (18446744073709551616 - R) < 4294967296 := Nat.lt_of_le_of_lt Nat.and_le_left h
  have hge : 2 ^ p ≤ R &&& (18446744073709551616 - R) := Nat.ge_two_pow_of_testBit (by rw [Nat.testBit_and, hb1, hb2]; rfl)
  have e2 : bits .and .i64 (R : Int) (-(R : Int)) = ((R &&& (18446744073709551616 - R) : Nat) : Int) := by
    show IntKind.i64.wrap ((BitVec.ofInt 64 (R : Int) &&& BitVec.ofInt 64 (-(R : Int))).toNat : Int) = _
    rw [BitVec.toNat_and, of64 R (by omega), hneg, wrap_nat hx]
  rw [e2]
  exact Int.ofNat_le.2 hge
end Go.Proofs.Ytlhkjcggfgconaa.Poo
