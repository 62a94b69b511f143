/- Whole numbers below 2^53 as float64: each is read as it is; order and sums are exact. -/
import GoSem.Core.Float
namespace Go.Proofs.Ytahkhkfmpnoneaa.Flo
open Ieee

/-- The word of a whole number. -/
def near (n : Int) : Nat := Ieee.double.nearest (decide (n < 0)) n.natAbs 0

theorem shl (a b : Nat) : a <<< b = a * 2 ^ b := Nat.shiftLeft_eq a b

theorem cut_exact (neg : Bool) (x d : Nat) (hx : 0 < x) : Toward.even.cut neg (x * 2 ^ d) d = x := by
  have hp : 0 < 2 ^ d := Nat.two_pow_pos d
  have h1 : d ≤ (x * 2 ^ d).log2 := by
    rw [Nat.le_log2 (by have := Nat.mul_pos hx hp; omega)]
    exact Nat.le_mul_of_pos_left _ hx
  unfold Toward.cut
  rw [Nat.min_eq_left (by omega), shl, Nat.one_mul]
  simp only [Nat.mul_mod_left, Nat.mul_div_cancel _ hp]
  simp

theorem log_shift {m : Nat} (h0 : 0 < m) (k : Nat) : (m * 2 ^ k).log2 = m.log2 + k := by
  have h1 : 2 ^ m.log2 ≤ m := Nat.log2_self_le (by omega)
  have h2 : m < 2 ^ (m.log2 + 1) := Nat.lt_log2_self
  have hm : m * 2 ^ k ≠ 0 := by have := Nat.mul_pos h0 (Nat.two_pow_pos k); omega
  apply Nat.le_antisymm
  · have : (m * 2 ^ k).log2 < m.log2 + k + 1 := by
      rw [Nat.log2_lt hm]
      calc m * 2 ^ k < 2 ^ (m.log2 + 1) * 2 ^ k := Nat.mul_lt_mul_of_pos_right h2 (Nat.two_pow_pos _)
        _ = 2 ^ (m.log2 + k + 1) := by rw [← Nat.pow_add]; congr 1; omega
    omega
  · rw [Nat.le_log2 hm]
    calc 2 ^ (m.log2 + k) = 2 ^ m.log2 * 2 ^ k := Nat.pow_add _ _ _
      _ ≤ m * 2 ^ k := Nat.mul_le_mul_right _ h1

theorem log_bounds {m : Nat} (h0 : 0 < m) (h : m < 9007199254740992) : m.log2 ≤ 52 ∧ 4503599627370496 ≤ m * 2 ^ (52 - m.log2) ∧ m * 2 ^ (52 - m.log2) < 9007199254740992 := by
  have h1 : m.log2 < 53 := (Nat.log2_lt (by omega)).2 h
  have h2 : 2 ^ m.log2 ≤ m := Nat.log2_self_le (by omega)
  have h3 : m < 2 ^ (m.log2 + 1) := Nat.lt_log2_self
  refine ⟨by omega, ?_, ?_⟩
  · calc 4503599627370496 = 2 ^ m.log2 * 2 ^ (52 - m.log2) := by rw [← Nat.pow_add, show m.log2 + (52 - m.log2) = 52 by omega]
      _ ≤ m * 2 ^ (52 - m.log2) := Nat.mul_le_mul_right _ h2
  · calc m * 2 ^ (52 - m.log2) < 2 ^ (m.log2 + 1) * 2 ^ (52 - m.log2) := Nat.mul_lt_mul_of_pos_right h3 (Nat.two_pow_pos _)
      _ = 9007199254740992 := by rw [← Nat.pow_add, show m.log2 + 1 + (52 - m.log2) = 53 by omega]

/-- The word, whatever power of two has been taken out. -/
theorem nearest_shift (neg : Bool) (m k : Nat) (h0 : 0 < m) (h : m < 9007199254740992) :
    Ieee.double.nearest neg (m * 2 ^ k) (-(k : Int)) = Ieee.double.word neg ((m.log2 + 1022) * 4503599627370496 + m * 2 ^ (52 - m.log2)) := by
  obtain ⟨hL, hlo, hhi⟩ := log_bounds h0 h
  have hp : 0 < 2 ^ k := Nat.two_pow_pos k
  have hm : ¬ m * 2 ^ k = 0 := by have := Nat.mul_pos h0 hp; omega
  have hlog : (m * 2 ^ k).log2 = m.log2 + k := log_shift h0 k
  have hleast : Ieee.double.leastPlace = -1074 := by decide
  have hlast : max (-(k : Int) + ((m * 2 ^ k).log2 : Nat) - (Ieee.double.fractionBits : Nat)) Ieee.double.leastPlace = (m.log2 : Int) - 52 := by
    rw [hlog, hleast, show Ieee.double.fractionBits = 52 from rfl]; omega
  unfold Format.nearest
  rw [if_neg hm]
  simp only [hlast]
  have hkept : Toward.even.cut neg ((m * 2 ^ k) <<< (-(k : Int) - ((m.log2 : Int) - 52)).toNat) (((m.log2 : Int) - 52) - -(k : Int)).toNat = m * 2 ^ (52 - m.log2) := by
    by_cases hk : k ≤ 52 - m.log2
    · rw [show (-(k : Int) - ((m.log2 : Int) - 52)).toNat = 52 - m.log2 - k by omega, show (((m.log2 : Int) - 52) - -(k : Int)).toNat = 0 by omega, shl, Nat.mul_assoc, ← Nat.pow_add,
        show k + (52 - m.log2 - k) = 52 - m.log2 by omega]
      have := cut_exact neg (m * 2 ^ (52 - m.log2)) 0 (by omega)
      simpa using this
    · rw [show (-(k : Int) - ((m.log2 : Int) - 52)).toNat = 0 by omega, show (((m.log2 : Int) - 52) - -(k : Int)).toNat = k - (52 - m.log2) by omega, shl, Nat.pow_zero, Nat.mul_one]
      have := cut_exact neg (m * 2 ^ (52 - m.log2)) (k - (52 - m.log2)) (by omega)
      rw [Nat.mul_assoc, ← Nat.pow_add, show 52 - m.log2 + (k - (52 - m.log2)) = k by omega] at this
      exact this
  rw [hkept, hleast, show ((m.log2 : Int) - 52 - -1074).toNat = m.log2 + 1022 by omega, show Ieee.double.binade = 4503599627370496 by decide, show Ieee.double.infRung = 9218868437227405312 by decide]
  rw [Nat.min_eq_left (by omega)]

theorem nearest_zero (neg : Bool) (k : Int) : Ieee.double.nearest neg 0 k = Ieee.double.word neg 0 := by
  unfold Format.nearest; rw [if_pos rfl]

theorem read_word (neg : Bool) (L x : Nat) (hL : L ≤ 52) (hlo : 4503599627370496 ≤ x) (hhi : x < 9007199254740992) :
    Ieee.double.read (Ieee.double.word neg ((L + 1022) * 4503599627370496 + x)) = .number neg x ((L : Int) - 52) := by
  have hsw : Ieee.double.signWeight = 9223372036854775808 := by decide
  have hb : Ieee.double.binade = 4503599627370496 := by decide
  have hi : Ieee.double.infRung = 9218868437227405312 := by decide
  have hleast : Ieee.double.leastPlace = -1074 := by decide
  have hr : (L + 1022) * 4503599627370496 + x < 9223372036854775808 := by omega
  unfold Format.read Format.word
  rw [hsw, hb, hi, hleast]
  obtain ⟨r, hq⟩ : ∃ r, r = (L + 1022) * 4503599627370496 + x := ⟨_, rfl⟩
  rw [← hq] at hr ⊢
  have h1 : (if neg = true then 9223372036854775808 + r else r) % 9223372036854775808 = r := by cases neg <;> simp <;> omega
  have h2 : ((if neg = true then 9223372036854775808 + r else r) / 9223372036854775808 % 2 == 1) = neg := by
    cases neg
    · have : r / 9223372036854775808 = 0 := Nat.div_eq_of_lt hr
      simp [this]
    · have : (9223372036854775808 + r) / 9223372036854775808 = 1 := by omega
      simp [this]
  simp only [h1, h2]
  rw [if_neg (by omega), if_pos (by omega)]
  have h3 : r / 4503599627370496 = L + 1023 := by omega
  have h4 : 4503599627370496 + r % 4503599627370496 = x := by omega
  rw [h3, h4]
  exact congrArg (Datum.number neg x) (by omega)

theorem read_zero (neg : Bool) : Ieee.double.read (Ieee.double.word neg 0) = .number neg 0 (-1074) := by cases neg <;> rfl

/-- A whole number below 2^53 is read as it is. -/
theorem read_near (n : Int) (h : n.natAbs < 9007199254740992) : ∃ d : Nat, Ieee.double.read (near n) = .number (decide (n < 0)) (n.natAbs * 2 ^ d) (-(d : Int)) := by
  by_cases h0 : n = 0
  · subst h0
    obtain ⟨d, hd⟩ : ∃ d : Nat, d = 1074 := ⟨_, rfl⟩
    refine ⟨d, ?_⟩
    unfold near
    rw [show Int.natAbs 0 = 0 from rfl, nearest_zero, read_zero, Nat.zero_mul]
    congr 1
    omega
  · obtain ⟨hL, hlo, hhi⟩ := log_bounds (m := n.natAbs) (by omega) h
    refine ⟨52 - n.natAbs.log2, ?_⟩
    have e := nearest_shift (decide (n < 0)) n.natAbs 0 (by omega) h
    rw [Nat.pow_zero, Nat.mul_one] at e
    unfold near
    rw [show Ieee.double.nearest (decide (n < 0)) n.natAbs 0 = _ from e, read_word _ _ _ hL hlo hhi]
    congr 1
    omega

theorem signed_near (n : Int) (d M : Nat) (h : d ≤ M) : signed (decide (n < 0)) (n.natAbs * 2 ^ d) (M - d) = n * (2 : Int) ^ M := by
  unfold signed
  rw [shl, Nat.mul_assoc, ← Nat.pow_add, show d + (M - d) = M by omega]
  by_cases hn : n < 0
  · simp only [hn, decide_true, if_true]
    rw [show (n.natAbs : Nat) = (-n).toNat by omega]
    push_cast
    rw [Int.toNat_of_nonneg (by omega), Int.neg_mul, Int.neg_neg]
  · simp only [hn, decide_false]
    rw [show (n.natAbs : Nat) = n.toNat by omega]
    push_cast
    rw [Int.toNat_of_nonneg (by omega)]

theorem order_near (a b : Int) (ha : a.natAbs < 9007199254740992) (hb : b.natAbs < 9007199254740992) : Ieee.double.order (near a) (near b) = some (compare a b) := by
  obtain ⟨d, hd⟩ := read_near a ha
  obtain ⟨e, he⟩ := read_near b hb
  unfold Format.order
  rw [hd, he]
  show some (compare _ _) = _
  rw [show (-(d : Int) - min (-(d : Int)) (-(e : Int))).toNat = max d e - d by omega, show (-(e : Int) - min (-(d : Int)) (-(e : Int))).toNat = max d e - e by omega]
  rw [signed_near a d _ (by omega), signed_near b e _ (by omega)]
  have hp : (0 : Int) < 2 ^ (max d e) := by exact_mod_cast Nat.two_pow_pos _
  congr 1
  rcases Int.lt_trichotomy a b with h | h | h
  · have h1 := Int.mul_lt_mul_of_pos_right h hp
    rw [Int.compare_eq_lt.2 h, Int.compare_eq_lt.2 h1]
  · subst h; rw [Int.compare_eq_eq.2 rfl, Int.compare_eq_eq.2 rfl]
  · have h1 := Int.mul_lt_mul_of_pos_right h hp
    rw [Int.compare_eq_gt.2 h, Int.compare_eq_gt.2 h1]

/-- What is written of a whole number with a power of two taken out. -/
theorem write_near (n : Int) (M : Nat) (h : n.natAbs < 9007199254740992) : Ieee.double.write (.number (decide (n < 0)) (n * (2 : Int) ^ M).natAbs (-(M : Int))) = near n := by
  unfold Format.write near
  simp only
  rw [Int.natAbs_mul, show ((2 : Int) ^ M).natAbs = 2 ^ M by rw [Int.natAbs_pow]; rfl]
  by_cases h0 : n = 0
  · subst h0; simp [nearest_zero]
  · rw [nearest_shift _ _ _ (by omega) h]
    have e := nearest_shift (decide (n < 0)) n.natAbs 0 (by omega) h
    rw [Nat.pow_zero, Nat.mul_one] at e
    exact e.symm

theorem add_near (a b : Int) (ha : a.natAbs < 9007199254740992) (hb : b.natAbs < 9007199254740992) (hab : (a + b).natAbs < 9007199254740992) : Ieee.double.add (near a) (near b) = some (near (a + b)) := by
  obtain ⟨d, hd⟩ := read_near a ha
  obtain ⟨e, he⟩ := read_near b hb
  unfold Format.add
  rw [hd, he]
  unfold Datum.sum
  simp only
  rw [show (-(d : Int) - min (-(d : Int)) (-(e : Int))).toNat = max d e - d by omega, show (-(e : Int) - min (-(d : Int)) (-(e : Int))).toNat = max d e - e by omega]
  rw [signed_near a d _ (by omega), signed_near b e _ (by omega), ← Int.add_mul, show min (-(d : Int)) (-(e : Int)) = -((max d e : Nat) : Int) by omega]
  have hp : (0 : Int) < 2 ^ (max d e) := by exact_mod_cast Nat.two_pow_pos _
  rw [Option.map_some]
  congr 1
  rw [← write_near (a + b) (max d e) hab]
  congr 2
  by_cases h0 : a + b = 0
  · rw [h0, Int.zero_mul, if_pos rfl]
    by_cases h1 : a < 0
    · have : ¬ b < 0 := by omega
      simp [this]
    · simp [h1]
  · have h1 : ¬ (a + b) * 2 ^ (max d e) = 0 := by
      intro h
      rcases Int.mul_eq_zero.1 h with h | h <;> omega
    rw [if_neg h1]
    rw [decide_eq_decide]
    constructor
    · intro h
      by_cases h2 : a + b < 0
      · exact h2
      · have := Int.mul_nonneg (show 0 ≤ a + b by omega) (Int.le_of_lt hp); omega
    · intro h; exact Int.mul_neg_of_neg_of_pos h hp

end Go.Proofs.Ytahkhkfmpnoneaa.Flo
