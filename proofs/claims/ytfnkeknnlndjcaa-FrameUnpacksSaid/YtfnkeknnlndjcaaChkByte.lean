/- Check: sums of bytes: bit by bit, and a byte at once; bits that are turned. -/
import Derived.Test.YtfnkeknnlndjcaaChkMath
namespace Go.Proofs.Ytfnkeknnlndjcaa.Chk
set_option linter.unusedVariables false

/-- A byte's bits, the highest first. -/
def bitsOf (b : UInt8) : List Bool := [b.toNat.testBit 7, b.toNat.testBit 6, b.toNat.testBit 5, b.toNat.testBit 4, b.toNat.testBit 3, b.toNat.testBit 2, b.toNat.testBit 1, b.toNat.testBit 0]
theorem bitsOf_length (b : UInt8) : (bitsOf b).length = 8 := rfl
theorem bitsOf_at (b : UInt8) (r : Nat) (h : r < 8) : (bitsOf b)[r]? = some (b.toNat.testBit (7 - r)) := by
  match r, h with
  | 0, _ => rfl
  | 1, _ => rfl
  | 2, _ => rfl
  | 3, _ => rfl
  | 4, _ => rfl
  | 5, _ => rfl
  | 6, _ => rfl
  | 7, _ => rfl
def bits (l : List UInt8) : List Bool := l.flatMap bitsOf
theorem bits_append (l k : List UInt8) : bits (l ++ k) = bits l ++ bits k := by simp [bits]
theorem bits_length : ∀ l : List UInt8, (bits l).length = 8 * l.length
  | [] => rfl
  | b :: l => by
    show (bitsOf b ++ bits l).length = _
    rw [List.length_append, bits_length l, bitsOf_length, List.length_cons]; omega
theorem bits_at : ∀ (l : List UInt8) (q r : Nat), r < 8 → (bits l)[8 * q + r]? = (l[q]?).bind fun b => (bitsOf b)[r]?
  | [], q, r, h => by simp [bits]
  | b :: l, 0, r, h => by
    show (bitsOf b ++ bits l)[8 * 0 + r]? = _
    rw [Nat.mul_zero, Nat.zero_add, List.getElem?_append_left (by rw [bitsOf_length]; exact h)]
    rfl
  | b :: l, q + 1, r, h => by
    show (bitsOf b ++ bits l)[8 * (q + 1) + r]? = _
    rw [List.getElem?_append_right (by rw [bitsOf_length]; omega), bitsOf_length, show 8 * (q + 1) + r - 8 = 8 * q + r by omega, bits_at l q r h]
    rfl
theorem bitsOf_inj {b c : UInt8} (h : bitsOf b = bitsOf c) : b = c := by
  apply UInt8.toNat.inj
  have hb := b.toNat_lt
  have hc := c.toNat_lt
  apply Nat.eq_of_testBit_eq
  intro i
  by_cases hi : i < 8
  · have h1 := bitsOf_at b (7 - i) (by omega)
    have h2 := bitsOf_at c (7 - i) (by omega)
    rw [h, h2, show 7 - (7 - i) = i by omega] at h1
    injection h1 with h1
    exact h1.symm
  · have hp : 2 ^ 8 ≤ 2 ^ i := Nat.pow_le_pow_right (by decide) (by omega)
    rw [Nat.testBit_lt_two_pow (by omega), Nat.testBit_lt_two_pow (by omega)]
theorem bits_inj : ∀ (l k : List UInt8), bits l = bits k → l = k
  | [], [], _ => rfl
  | [], c :: k, h => by have := congrArg List.length h; rw [bits_length, bits_length] at this; simp at this
  | b :: l, [], h => by have := congrArg List.length h; rw [bits_length, bits_length] at this; simp at this
  | b :: l, c :: k, h => by
    have h' : bitsOf b ++ bits l = bitsOf c ++ bits k := h
    have h2 := List.append_inj h' (by rw [bitsOf_length, bitsOf_length])
    rw [bitsOf_inj h2.1, bits_inj l k h2.2]

/-- The sum of bytes, from a sum on. -/
def crc (s : BitVec 32) (l : List UInt8) : BitVec 32 := bitsZ s (bits l)
theorem crc_append (s : BitVec 32) (l k : List UInt8) : crc s (l ++ k) = crc (crc s l) k := by unfold crc; rw [bits_append, bitsZ_append]
theorem crc_nil (s : BitVec 32) : crc s [] = s := rfl
theorem crc_snoc (s : BitVec 32) (l : List UInt8) (b : UInt8) : crc s (l ++ [b]) = bitsZ (crc s l) (bitsOf b) := by
  rw [crc_append]
  show bitsZ _ (bitsOf b ++ []) = _
  rw [List.append_nil]

/-- Bytes that differ within 32 bits of one another. -/
theorem crc_burst (s : BitVec 32) (x y : List UInt8) (k : Nat) (hl : x.length = y.length) (h : ∀ j, (bits x)[j]? ≠ (bits y)[j]? → k ≤ j ∧ j < k + 32) : crc s x = crc s y ↔ x = y := by
  unfold crc
  rw [burst s (bits x) (bits y) k (by rw [bits_length, bits_length, hl]) h]
  exact ⟨bits_inj x y, fun e => by rw [e]⟩

/-- Four bytes behind any others. -/
theorem crc_four (s : BitVec 32) (x m n : List UInt8) (hm : m.length = 4) (hn : n.length = 4) : crc s (x ++ m) = crc s (x ++ n) ↔ m = n := by
  rw [crc_burst s (x ++ m) (x ++ n) (8 * x.length) (by rw [List.length_append, List.length_append, hm, hn])]
  · exact ⟨fun e => List.append_cancel_left e, fun e => by rw [e]⟩
  · intro j hj
    rw [bits_append, bits_append] at hj
    by_cases h1 : j < 8 * x.length
    · rw [List.getElem?_append_left (by rw [bits_length]; exact h1), List.getElem?_append_left (by rw [bits_length]; exact h1)] at hj
      exact absurd rfl hj
    · refine ⟨by omega, ?_⟩
      rcases Nat.lt_or_ge j (8 * x.length + 32) with h2 | h2
      · exact h2
      · rw [List.getElem?_eq_none (by rw [List.length_append, bits_length, bits_length, hm]; omega), List.getElem?_eq_none (by rw [List.length_append, bits_length, bits_length, hn]; omega)] at hj
        exact absurd rfl hj

/-! ### As numbers -/

def polyN : Nat := 79764919
/-- One bit, as numbers. -/
def bitN (s c : Nat) : Nat := if s / 2147483648 = c then s * 2 % 4294967296 else (s * 2 % 4294967296) ^^^ polyN
theorem toNat_shl1 (x : BitVec 32) : (x <<< 1).toNat = x.toNat * 2 % 4294967296 := by
  rw [BitVec.toNat_shiftLeft, Nat.shiftLeft_eq]
theorem msb_div (x : BitVec 32) : x.msb = decide (x.toNat / 2147483648 = 1) := by
  have h := x.isLt
  rw [BitVec.msb_eq_decide, decide_eq_decide]
  omega
theorem hi1_shl (b : Bool) : hi1 b <<< 1 = 0#32 := by cases b <;> decide
theorem hi1_msb (b : Bool) : (hi1 b).msb = b := by cases b <;> decide
theorem bitZ_toNat (s : BitVec 32) (b : Bool) : (bitZ s b).toNat = bitN s.toNat b.toNat := by
  have h := s.isLt
  unfold bitZ Z bitN
  rw [shl_xor, hi1_shl, BitVec.xor_zero, BitVec.msb_xor, hi1_msb, msb_div, BitVec.toNat_xor, toNat_shl1]
  have e : poly.toNat = polyN := by decide
  by_cases h1 : s.toNat / 2147483648 = 1
  · cases b
    · simp [h1, e]
    · simp [h1]
  · have h0 : s.toNat / 2147483648 = 0 := by omega
    cases b
    · simp [h0]
    · simp [h0, e]

/-- A byte at once: what falls out picks one of 256 sums. -/
theorem Zn_shl : ∀ (n : Nat) (x : BitVec 32), (∀ i, 32 ≤ i + n → x.getLsbD i = false) → Zn n x = x <<< n
  | 0, x, _ => by simp [Zn]
  | n + 1, x, h => by
    have hm : x.msb = false := by rw [BitVec.msb_eq_getLsbD_last]; exact h 31 (by omega)
    have hz : Z x = x <<< 1 := by
      unfold Z; rw [hm]; simp
    show Zn n (Z x) = _
    rw [hz, Zn_shl n]
    · rw [Nat.add_comm, BitVec.shiftLeft_add]
    · intro i hi
      rw [BitVec.getLsbD_shiftLeft]
      by_cases h0 : i < 1
      · simp [h0]
      · rw [h (i - 1) (by omega)]; simp

def wide (b : UInt8) : BitVec 32 := BitVec.ofNat 32 b.toNat
theorem top_bitsOf (b : UInt8) : top (bitsOf b) = wide b <<< 24 := by
  have : ∀ n : Fin 256, top (bitsOf (UInt8.ofNat n.val)) = BitVec.ofNat 32 n.val <<< 24 := by decide +kernel
  have h := this ⟨b.toNat, b.toNat_lt⟩
  simp only at h
  rw [show UInt8.ofNat b.toNat = b from by simp] at h
  exact h
theorem byte_step (s : BitVec 32) (b : UInt8) : bitsZ s (bitsOf b) = (s <<< 8) ^^^ Zn 8 (((s >>> 24) ^^^ wide b) <<< 24) := by
  rw [bitsZ_top _ _ (by rw [bitsOf_length]; omega), bitsOf_length, top_bitsOf]
  have e : s ^^^ (wide b <<< 24) = (((s >>> 24) ^^^ wide b) <<< 24) ^^^ (s &&& 0xFFFFFF#32) := by
    apply BitVec.eq_of_getLsbD_eq
    intro i hi
    have hc : (0xFFFFFF#32 : BitVec 32).getLsbD i = decide (i < 24) := by
      have : ∀ i : Fin 32, (0xFFFFFF#32 : BitVec 32).getLsbD i.val = decide (i.val < 24) := by decide
      exact this ⟨i, hi⟩
    simp only [BitVec.getLsbD_xor, BitVec.getLsbD_shiftLeft, BitVec.getLsbD_ushiftRight, BitVec.getLsbD_and, hc]
    by_cases h : i < 24
    · simp [h]
    · simp [h, hi, show 24 + (i - 24) = i by omega]
  have e2 : Zn 8 (s &&& 0xFFFFFF#32) = s <<< 8 := by
    have hc : ∀ i, i < 32 → (0xFFFFFF#32 : BitVec 32).getLsbD i = decide (i < 24) := by
      intro i hi
      have : ∀ i : Fin 32, (0xFFFFFF#32 : BitVec 32).getLsbD i.val = decide (i.val < 24) := by decide
      exact this ⟨i, hi⟩
    rw [Zn_shl 8]
    · apply BitVec.eq_of_getLsbD_eq
      intro i hi
      rw [BitVec.getLsbD_shiftLeft, BitVec.getLsbD_shiftLeft, BitVec.getLsbD_and, hc _ (by omega)]
      by_cases h8 : i < 8
      · simp [h8]
      · simp [h8, show i - 8 < 24 by omega]
    · intro i hi
      rw [BitVec.getLsbD_and]
      by_cases h32 : i < 32
      · rw [hc i h32, decide_eq_false (by omega), Bool.and_false]
      · rw [BitVec.getLsbD_of_ge _ _ (by omega)]; rfl
  rw [e, Zn_xor, e2, BitVec.xor_comm]

end Go.Proofs.Ytfnkeknnlndjcaa.Chk
