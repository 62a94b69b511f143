/- Pool: nodes as the bits of a number (mathematics). -/
import Derived.Test.YtlhkjcggfgconaaLst
namespace Go.Proofs.Ytlhkjcggfgconaa.Poo
open Tre (inI)
set_option linter.unusedVariables false

/-- The bits that count. -/
def lo (m : Int) : Nat := (m % 4294967296).toNat
def cntTo (U : Nat) : Nat → Nat
  | 0 => 0
  | j + 1 => cntTo U j + (if U.testBit j then 1 else 0)
def cnt (U : Nat) : Nat := cntTo U 32
/-- The n lowest, as far as bit j. -/
def pick (U n : Nat) : Nat → Nat
  | 0 => 0
  | j + 1 => pick U n j + (if U.testBit j = true ∧ cntTo U j < n then 2 ^ j else 0)
def takeOk (U : Nat) (n : Int) : Bool := decide (0 ≤ n ∧ n ≤ (cnt U : Int))
def takeV (U : Nat) (n : Int) : Nat := if takeOk U n then pick U n.toNat 32 else 0
def allN (n : Int) : Nat := 2 ^ (min 32 n.toNat) - 1

theorem cnt_le (U : Nat) : ∀ j, cntTo U j ≤ j
  | 0 => Nat.le_refl _
  | j + 1 => by
    have := cnt_le U j
    rw [cntTo]
    split <;> omega
theorem cnt_mono (U i : Nat) : ∀ d, cntTo U i ≤ cntTo U (i + d)
  | 0 => Nat.le_refl _
  | d + 1 => by
    have := cnt_mono U i d
    rw [show i + (d + 1) = (i + d) + 1 by omega, cntTo]
    omega
theorem cnt_mono' {U i j : Nat} (h : i ≤ j) : cntTo U i ≤ cntTo U j := by
  have := cnt_mono U i (j - i)
  rwa [show i + (j - i) = j by omega] at this
theorem pick_lt (U n : Nat) : ∀ j, pick U n j < 2 ^ j
  | 0 => by rw [pick]; decide
  | j + 1 => by
    have := pick_lt U n j
    rw [pick, Nat.pow_succ]
    split <;> omega
theorem pick_bit (U n : Nat) : ∀ J j, (pick U n J).testBit j = decide (j < J ∧ U.testBit j = true ∧ cntTo U j < n)
  | 0, j => by simp [pick]
  | J + 1, j => by
    have ih := pick_bit U n J j
    have hlt := pick_lt U n J
    rw [pick]
    by_cases hc : U.testBit J = true ∧ cntTo U J < n
    · rw [if_pos hc, Nat.add_comm]
      by_cases hj : j = J
      · subst hj
        rw [Nat.testBit_two_pow_add_eq, Nat.testBit_lt_two_pow hlt]
        simp [hc.1, hc.2]
      · by_cases hlt2 : j < J
        · rw [Nat.testBit_two_pow_add_gt hlt2, ih, decide_eq_decide]
          constructor
          · rintro ⟨_, h⟩; exact ⟨by omega, h⟩
          · rintro ⟨_, h⟩; exact ⟨hlt2, h⟩
        · rw [Nat.testBit_lt_two_pow (Nat.lt_of_lt_of_le (show 2 ^ J + pick U n J < 2 ^ (J + 1) by rw [Nat.pow_succ]; omega) (Nat.pow_le_pow_right (by decide) (by omega)))]
          symm
          rw [decide_eq_false_iff_not]
          rintro ⟨h, _⟩
          omega
    · rw [if_neg hc, Nat.add_zero, ih, decide_eq_decide]
      constructor
      · rintro ⟨_, h⟩; exact ⟨by omega, h⟩
      · rintro ⟨h1, h⟩
        refine ⟨?_, h⟩
        by_cases e : j = J
        · subst e; exact absurd h hc
        · omega
theorem cnt_congr {U V : Nat} : ∀ j, (∀ i, i < j → U.testBit i = V.testBit i) → cntTo U j = cntTo V j
  | 0, _ => rfl
  | j + 1, h => by rw [cntTo, cntTo, cnt_congr j fun i hi => h i (by omega), h j (by omega)]
theorem cnt_pick (U n : Nat) : ∀ j, j ≤ 32 → cntTo (pick U n 32) j = min (cntTo U j) n
  | 0, _ => by simp [cntTo]
  | j + 1, h => by
    rw [cntTo, cntTo, cnt_pick U n j (by omega), pick_bit]
    by_cases h1 : U.testBit j = true
    · by_cases h2 : cntTo U j < n
      · rw [if_pos (by simp [h1, h2]; omega), if_pos h1]; omega
      · rw [if_neg (by simp [h1, h2]), if_pos h1]; omega
    · rw [if_neg (by simp [h1]), if_neg h1, Nat.add_zero, Nat.add_zero]
/-- What is left. -/
theorem cnt_rest {U R n : Nat} (hR : ∀ j, j < 32 → R.testBit j = (U.testBit j && !(pick U n 32).testBit j)) : ∀ j, j ≤ 32 → cntTo R j = cntTo U j - n
  | 0, _ => by simp [cntTo]
  | j + 1, h => by
    have ih := cnt_rest hR j (by omega)
    rw [cntTo, cntTo, ih, hR j (by omega), pick_bit]
    by_cases h1 : U.testBit j = true
    · by_cases h2 : cntTo U j < n
      · rw [if_neg (by simp [h1, h2]; omega), if_pos h1]; omega
      · rw [if_pos (by simp [h1, h2]), if_pos h1]; omega
    · rw [if_neg (by simp [h1]), if_neg h1]; omega
theorem pick_done (U n : Nat) {j : Nat} (hj : n ≤ cntTo U j) : ∀ d, pick U n (j + d) = pick U n j
  | 0 => rfl
  | d + 1 => by
    rw [show j + (d + 1) = (j + d) + 1 by omega, pick, pick_done U n hj d, if_neg (fun h => by have := cnt_mono U j d; omega), Nat.add_zero]
theorem lo_lt (m : Int) : lo m < 4294967296 := by unfold lo; omega
theorem lo_nat {u : Nat} (h : u < 4294967296) : lo (u : Int) = u := by unfold lo; omega
/-- A bit of the number is a bit that counts. -/
theorem lo_bit (m : Int) {k : Nat} (hk : k < 32) : (lo m).testBit k = decide (m / 2 ^ k % 2 = 1) := by
  rw [Nat.testBit_eq_decide_div_mod_eq, decide_eq_decide]
  have e : m / 2 ^ k % 2 = ((lo m / 2 ^ k % 2 : Nat) : Int) := by
    have h1 : ((lo m : Nat) : Int) = m % 4294967296 := by unfold lo; omega
    rw [Int.natCast_emod, Int.natCast_ediv, Int.natCast_pow, h1]
    have h3 : m = 4294967296 * (m / 4294967296) + m % 4294967296 := by omega
    generalize m % 4294967296 = r at h3 ⊢
    generalize m / 4294967296 = q at h3
    subst h3
    obtain ⟨d, hd⟩ : ∃ d, 32 = k + 1 + d := ⟨31 - k, by omega⟩
    have e32 : (4294967296 : Int) = 2 ^ k * (2 * 2 ^ d) := by
      rw [show (4294967296 : Int) = 2 ^ 32 from rfl, hd, Int.pow_add, Int.pow_add, Int.mul_assoc]; rfl
    have hp : (2 : Int) ^ k ≠ 0 := Int.ne_of_gt (Int.pow_pos (by decide))
    rw [e32, Int.mul_assoc, Int.add_comm, Int.add_mul_ediv_left _ _ hp, Int.mul_assoc, Int.add_mul_emod_self_left]
    rfl
  rw [e]
  omega
/-- What was taken first, and then what of the rest, is what is taken at once. -/
theorem pick_two {U R m n : Nat} (hR : ∀ j, j < 32 → R.testBit j = (U.testBit j && !(pick U m 32).testBit j)) (j : Nat) : (pick U (m + n) 32).testBit j = ((pick U m 32).testBit j || (pick R n 32).testBit j) := by
  rw [pick_bit, pick_bit, pick_bit]
  by_cases h0 : j < 32
  · rw [hR j h0, cnt_rest hR j (by omega), pick_bit]
    by_cases h1 : U.testBit j = true
    · simp [h0, h1]
      by_cases h2 : cntTo U j < m
      · simp [h2]; omega
      · simp [h2]; rw [← Bool.decide_and, decide_eq_decide]; omega
    · simp [h1]
  · simp [h0]
theorem pick_apart {U R m n : Nat} (hR : ∀ j, j < 32 → R.testBit j = (U.testBit j && !(pick U m 32).testBit j)) (j : Nat) : ((pick U m 32).testBit j && (pick R n 32).testBit j) = false := by
  rw [pick_bit R]
  by_cases h0 : j < 32
  · rw [hR j h0]
    cases (pick U m 32).testBit j <;> simp
  · simp [h0]
/-- What stays is not lower. -/
theorem pick_low {U R n p : Nat} (hR : ∀ j, j < 32 → R.testBit j = (U.testBit j && !(pick U n 32).testBit j)) (hp : p < 32) (h : R.testBit p = true) : pick U n 32 < 2 ^ p := by
  refine Nat.lt_pow_two_of_testBit _ fun j hj => ?_
  rw [hR p hp, pick_bit] at h
  rw [pick_bit, decide_eq_false_iff_not]
  rintro ⟨_, h1, h2⟩
  have := cnt_mono' (U := U) hj
  simp [hp] at h
  rcases h with ⟨h3, h4 | h4⟩
  · rw [h3] at h4; cases h4
  · omega
end Go.Proofs.Ytlhkjcggfgconaa.Poo
