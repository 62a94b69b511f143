/- Whole numbers of any 64-bit size as float64: beyond 2^53 they lie beyond every smaller one; products; back to integers. -/
import Derived.Test.YtahkhkfmpnoneaaFloat
namespace Go.Proofs.Ytahkhkfmpnoneaa.Flo
open Ieee

/-- A normal word read, its place a whole number. -/
theorem read_word' (neg : Bool) (d x : Nat) (hd : d ≤ 60) (hlo : 4503599627370496 ≤ x) (hhi : x < 9007199254740992) :
    Ieee.double.read (Ieee.double.word neg ((d + 1074) * 4503599627370496 + x)) = .number neg x (d : Int) := by
  have hsw : Ieee.double.signWeight = 9223372036854775808 := by decide
  have hb : Ieee.double.binade = 4503599627370496 := by decide
  have hi : Ieee.double.infRung = 9218868437227405312 := by decide
  have hleast : Ieee.double.leastPlace = -1074 := by decide
  have hr : (d + 1074) * 4503599627370496 + x < 9223372036854775808 := by omega
  unfold Format.read Format.word
  rw [hsw, hb, hi, hleast]
  obtain ⟨r, hq⟩ : ∃ r, r = (d + 1074) * 4503599627370496 + x := ⟨_, rfl⟩
  rw [← hq] at hr ⊢
  have h1 : (if neg = true then 9223372036854775808 + r else r) % 9223372036854775808 = r := by cases neg <;> simp <;> omega
  have h2 : ((if neg = true then 9223372036854775808 + r else r) / 9223372036854775808 % 2 == 1) = neg := by
    cases neg
    · have : r / 9223372036854775808 = 0 := Nat.div_eq_of_lt hr
      simp [this]
    · have : (9223372036854775808 + r) / 9223372036854775808 = 1 := by omega
      simp [this]
  simp only [h1, h2]
  rw [if_neg (by omega), if_pos (by omega)]
  have h3 : r / 4503599627370496 = d + 1075 := by omega
  have h4 : 4503599627370496 + r % 4503599627370496 = x := by omega
  rw [h3, h4]
  exact congrArg (Datum.number neg x) (by omega)

theorem cut_bounds (neg : Bool) (n d : Nat) (h : n.log2 = 52 + d) (h0 : 0 < n) : 4503599627370496 ≤ Toward.even.cut neg n d ∧ Toward.even.cut neg n d ≤ 9007199254740992 := by
  have h1 : 2 ^ n.log2 ≤ n := Nat.log2_self_le (by omega)
  have h2 : n < 2 ^ (n.log2 + 1) := Nat.lt_log2_self
  have hp : 0 < 2 ^ d := Nat.two_pow_pos d
  rw [h, Nat.pow_add] at h1
  rw [h, show 52 + d + 1 = 53 + d by omega, Nat.pow_add] at h2
  have hlo : 4503599627370496 ≤ n / 2 ^ d := by
    rw [Nat.le_div_iff_mul_le hp]; exact h1
  have hhi : n / 2 ^ d < 9007199254740992 := by
    rw [Nat.div_lt_iff_lt_mul hp]; exact h2
  unfold Toward.cut
  rw [Nat.min_eq_left (by omega), shl, Nat.one_mul]
  simp only
  generalize (decide (2 ^ d < 2 * (n % 2 ^ d)) || (2 ^ d == 2 * (n % 2 ^ d) && n / 2 ^ d % 2 == 1)) = c
  have : c.toNat ≤ 1 := by cases c <;> simp
  omega

/-- Beyond 2^53: read as some number that is at least 2^53. -/
theorem read_big (n : Int) (h : 9007199254740992 ≤ n.natAbs) (hh : n.natAbs < 18446744073709551616) :
    ∃ (x e : Nat), Ieee.double.read (near n) = .number (decide (n < 0)) x (e : Int) ∧ 9007199254740992 ≤ x * 2 ^ e := by
  have hL1 : 53 ≤ n.natAbs.log2 := (Nat.le_log2 (by omega)).2 h
  have hL2 : n.natAbs.log2 < 64 := (Nat.log2_lt (by omega)).2 hh
  obtain ⟨d, hd⟩ : ∃ d, n.natAbs.log2 = 52 + d := ⟨n.natAbs.log2 - 52, by omega⟩
  obtain ⟨hc1, hc2⟩ := cut_bounds (decide (n < 0)) n.natAbs d hd (by omega)
  generalize hq : Toward.even.cut (decide (n < 0)) n.natAbs d = q at hc1 hc2
  have hleast : Ieee.double.leastPlace = -1074 := by decide
  have e : near n = Ieee.double.word (decide (n < 0)) ((d + 1074) * 4503599627370496 + q) := by
    unfold near Format.nearest
    rw [if_neg (by omega)]
    have hlast : max ((0 : Int) + (n.natAbs.log2 : Nat) - (Ieee.double.fractionBits : Nat)) Ieee.double.leastPlace = (d : Int) := by
      rw [hleast, hd, show Ieee.double.fractionBits = 52 from rfl]; omega
    simp only [hlast]
    rw [show ((0 : Int) - (d : Int)).toNat = 0 by omega, show ((d : Int) - 0).toNat = d by omega, shl, Nat.pow_zero, Nat.mul_one, hq, hleast,
      show ((d : Int) - -1074).toNat = d + 1074 by omega, show Ieee.double.binade = 4503599627370496 by decide, show Ieee.double.infRung = 9218868437227405312 by decide, Nat.min_eq_left (by omega)]
  have hd1 : 1 ≤ d := by omega
  have hd2 : d < 12 := by omega
  by_cases h53 : q = 9007199254740992
  · refine ⟨4503599627370496, d + 1, ?_, ?_⟩
    · have := read_word' (decide (n < 0)) (d + 1) 4503599627370496 (by omega) (by omega) (by omega)
      rw [e, h53, show (d + 1074) * 4503599627370496 + 9007199254740992 = (d + 1 + 1074) * 4503599627370496 + 4503599627370496 by omega]
      exact this
    · have : 2 ^ 1 ≤ 2 ^ (d + 1) := Nat.pow_le_pow_right (by omega) (by omega)
      omega
  · refine ⟨q, d, ?_, ?_⟩
    · rw [e]; exact read_word' (decide (n < 0)) d q (by omega) hc1 (by omega)
    · have : 2 ^ 1 ≤ 2 ^ d := Nat.pow_le_pow_right (by omega) (by omega)
      have := Nat.mul_le_mul hc1 this
      omega

theorem order_big (n m : Int) (h : 9007199254740992 ≤ n.natAbs) (hh : n.natAbs < 18446744073709551616) (hm : m.natAbs < 9007199254740992) :
    Ieee.double.order (near n) (near m) = some (compare n m) ∧ Ieee.double.order (near m) (near n) = some (compare m n) := by
  obtain ⟨x, e, hx, hx2⟩ := read_big n h hh
  obtain ⟨d, hd⟩ := read_near m hm
  have hp : (0 : Int) < 2 ^ d := by exact_mod_cast Nat.two_pow_pos _
  have hpn : 0 < 2 ^ d := Nat.two_pow_pos d
  have hS : signed (decide (m < 0)) (m.natAbs * 2 ^ d) 0 = m * (2 : Int) ^ d := by
    have := signed_near m d d (Nat.le_refl _); rwa [Nat.sub_self] at this
  have hB : signed (decide (n < 0)) x (e + d) = if n < 0 then -(((x * 2 ^ e * 2 ^ d : Nat)) : Int) else ((x * 2 ^ e * 2 ^ d : Nat) : Int) := by
    unfold signed; rw [shl, Nat.pow_add, ← Nat.mul_assoc]
    by_cases hn : n < 0 <;> simp [hn]
  generalize x * 2 ^ e = y at hx2 hB
  have hmy : (m.natAbs : Int) * 2 ^ d < ((y * 2 ^ d : Nat) : Int) := by
    have := Nat.mul_lt_mul_of_pos_right (show m.natAbs < y by omega) hpn
    push_cast
    exact_mod_cast this
  have hm1 : m * 2 ^ d ≤ (m.natAbs : Int) * 2 ^ d := Int.mul_le_mul_of_nonneg_right (by omega) (by omega)
  have hm2 : -(m.natAbs : Int) * 2 ^ d ≤ m * 2 ^ d := Int.mul_le_mul_of_nonneg_right (by omega) (by omega)
  rw [Int.neg_mul] at hm2
  unfold Format.order
  rw [hx, hd]
  constructor
  · show some (compare _ _) = _
    rw [show ((e : Int) - min (e : Int) (-(d : Int))).toNat = e + d by omega, show (-(d : Int) - min (e : Int) (-(d : Int))).toNat = 0 by omega, hS, hB]
    congr 1
    by_cases hn : n < 0
    · rw [if_pos hn, Int.compare_eq_lt.2 (show n < m by omega), Int.compare_eq_lt.2 (by omega)]
    · rw [if_neg hn, Int.compare_eq_gt.2 (show m < n by omega), Int.compare_eq_gt.2 (by omega)]
  · show some (compare _ _) = _
    rw [show ((e : Int) - min (-(d : Int)) (e : Int)).toNat = e + d by omega, show (-(d : Int) - min (-(d : Int)) (e : Int)).toNat = 0 by omega, hS, hB]
    congr 1
    by_cases hn : n < 0
    · rw [if_pos hn, Int.compare_eq_gt.2 (show n < m by omega), Int.compare_eq_gt.2 (by omega)]
    · rw [if_neg hn, Int.compare_eq_lt.2 (show m < n by omega), Int.compare_eq_lt.2 (by omega)]

/-- Order of two 64-bit numbers of which one is below 2^53. -/
theorem order_one (n m : Int) (hh : n.natAbs < 18446744073709551616) (hm : m.natAbs < 9007199254740992) :
    Ieee.double.order (near n) (near m) = some (compare n m) ∧ Ieee.double.order (near m) (near n) = some (compare m n) := by
  by_cases h : 9007199254740992 ≤ n.natAbs
  · exact order_big n m h hh hm
  · exact ⟨order_near n m (by omega) hm, order_near m n hm (by omega)⟩

theorem num_eq {s t : Bool} {m n : Nat} {e f : Int} (h1 : s = t) (h2 : m = n) (h3 : e = f) : Datum.number s m e = .number t n f := by subst h1 h2 h3; rfl

theorem mul_near (a b : Int) (ha : a.natAbs < 9007199254740992) (hb : b.natAbs < 9007199254740992) (ha0 : 0 ≤ a) (hb0 : 0 ≤ b) (hab : (a * b).natAbs < 9007199254740992) :
    Ieee.double.mul (near a) (near b) = some (near (a * b)) := by
  obtain ⟨d, hd⟩ := read_near a ha
  obtain ⟨e, he⟩ := read_near b hb
  unfold Format.mul
  rw [hd, he]
  unfold Datum.product
  simp only [Option.map_some]
  congr 1
  rw [← write_near (a * b) (d + e) hab]
  have h0 : 0 ≤ a * b := Int.mul_nonneg ha0 hb0
  have h1 : (decide (a < 0) ^^ decide (b < 0)) = decide (a * b < 0) := by
    have e1 : decide (a < 0) = false := by simp; omega
    have e2 : decide (b < 0) = false := by simp; omega
    have e3 : decide (a * b < 0) = false := by simp; omega
    rw [e1, e2, e3]; rfl
  have h2 : a.natAbs * 2 ^ d * (b.natAbs * 2 ^ e) = (a * b * (2 : Int) ^ (d + e)).natAbs := by
    rw [Int.natAbs_mul, Int.natAbs_mul, show ((2 : Int) ^ (d + e)).natAbs = 2 ^ (d + e) by rw [Int.natAbs_pow]; rfl, Nat.pow_add]
    rw [Nat.mul_mul_mul_comm]
  have h3 : -(d : Int) + -(e : Int) = -((d + e : Nat) : Int) := by omega
  exact congrArg Ieee.double.write (num_eq h1 h2 h3)

theorem toInt_near (n : Int) (h : n.natAbs < 9007199254740992) : (Ieee.double.read (near n)).toInt .zero = some n := by
  obtain ⟨d, hd⟩ := read_near n h
  rw [hd]
  unfold Datum.toInt Datum.integral
  simp only
  have e : Toward.zero.cut (decide (n < 0)) ((n.natAbs * 2 ^ d) <<< (-(d : Int)).toNat) (- -(d : Int)).toNat = n.natAbs := by
    rw [show (-(d : Int)).toNat = 0 by omega, show (- -(d : Int)).toNat = d by omega, shl, Nat.pow_zero, Nat.mul_one]
    unfold Toward.cut
    by_cases h0 : n.natAbs = 0
    · simp [h0]
    · have h1 : d ≤ (n.natAbs * 2 ^ d).log2 := by
        rw [log_shift (by omega)]; omega
      rw [Nat.min_eq_left (by omega), shl, Nat.one_mul]
      simp [Nat.mul_div_cancel _ (Nat.two_pow_pos d)]
  rw [e]
  unfold signed
  rw [shl, Nat.pow_zero, Nat.mul_one]
  by_cases hn : n < 0
  · simp only [hn, decide_true, if_true]; congr 1; omega
  · simp only [hn, decide_false]; simp; omega

end Go.Proofs.Ytahkhkfmpnoneaa.Flo
