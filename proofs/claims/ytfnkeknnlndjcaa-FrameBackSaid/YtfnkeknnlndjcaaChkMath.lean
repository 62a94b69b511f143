/- Check: sums of bits, as plain mathematics: a sum that is turned bit by bit; bits that differ within 32 of one another have unlike sums. -/
import Derived.Test.YtfnkeknnlndjcaaOctByte
namespace Go.Proofs.Ytfnkeknnlndjcaa.Chk
set_option linter.unusedVariables false

def poly : BitVec 32 := 0x04C11DB7#32

/-- Doubled, and turned where the highest bit falls out. -/
def Z (x : BitVec 32) : BitVec 32 := (x <<< 1) ^^^ (if x.msb then poly else 0#32)
theorem shl_xor (x y : BitVec 32) : (x ^^^ y) <<< 1 = (x <<< 1) ^^^ (y <<< 1) := by
  apply BitVec.eq_of_getLsbD_eq
  intro i hi
  simp only [BitVec.getLsbD_shiftLeft, BitVec.getLsbD_xor]
  by_cases h : i < 1 <;> simp [h, hi]
theorem Z_xor (x y : BitVec 32) : Z (x ^^^ y) = Z x ^^^ Z y := by
  unfold Z
  rw [shl_xor, BitVec.msb_xor]
  generalize x <<< 1 = a
  generalize y <<< 1 = b
  generalize poly = p
  apply BitVec.eq_of_getLsbD_eq
  intro i hi
  cases x.msb <;> cases y.msb <;> simp only [Bool.false_xor, Bool.true_xor, Bool.xor_false, Bool.not_true, if_true, Bool.false_eq_true, if_false, BitVec.getLsbD_xor, BitVec.getLsbD_zero] <;>
    cases a.getLsbD i <;> cases b.getLsbD i <;> cases p.getLsbD i <;> rfl
theorem Z_zero : Z 0#32 = 0#32 := by decide
theorem xor_eq_zero {x y : BitVec 32} (h : x ^^^ y = 0#32) : x = y := by
  have e : (x ^^^ y) ^^^ y = 0#32 ^^^ y := by rw [h]
  rw [BitVec.xor_assoc, BitVec.xor_self, BitVec.xor_zero, BitVec.zero_xor] at e
  exact e
theorem Z_eq_zero {d : BitVec 32} (h : Z d = 0#32) : d = 0#32 := by
  unfold Z at h
  cases hm : d.msb with
  | true =>
    rw [hm] at h
    have h0 := congrArg (fun v => v.getLsbD 0) h
    simp [poly] at h0
  | false =>
    rw [hm] at h
    simp only [Bool.false_eq_true, if_false, BitVec.xor_zero] at h
    apply BitVec.eq_of_getLsbD_eq
    intro i hi
    by_cases h31 : i = 31
    · subst h31
      have : d.getLsbD 31 = d.msb := by simp [BitVec.msb_eq_getLsbD_last]
      rw [this, hm]; simp
    · have h0 := congrArg (fun v => v.getLsbD (i + 1)) h
      have hi2 : i + 1 < 32 := by omega
      simp [hi2] at h0
      rw [BitVec.getLsbD_eq_getElem hi, h0]; simp
theorem Z_inj {x y : BitVec 32} (h : Z x = Z y) : x = y := by
  apply xor_eq_zero
  apply Z_eq_zero
  rw [Z_xor, h, BitVec.xor_self]

/-- The highest bit. -/
def hi1 (b : Bool) : BitVec 32 := if b then 0x80000000#32 else 0#32
/-- One bit. -/
def bitZ (s : BitVec 32) (b : Bool) : BitVec 32 := Z (s ^^^ hi1 b)
theorem bitZ_inj {s t : BitVec 32} {b : Bool} (h : bitZ s b = bitZ t b) : s = t := by
  have e := Z_inj h
  have : (s ^^^ hi1 b) ^^^ hi1 b = (t ^^^ hi1 b) ^^^ hi1 b := by rw [e]
  rwa [BitVec.xor_assoc, BitVec.xor_assoc, BitVec.xor_self, BitVec.xor_zero, BitVec.xor_zero] at this
def bitsZ (s : BitVec 32) (l : List Bool) : BitVec 32 := l.foldl bitZ s
theorem bitsZ_append (s : BitVec 32) (l k : List Bool) : bitsZ s (l ++ k) = bitsZ (bitsZ s l) k := by unfold bitsZ; rw [List.foldl_append]
theorem bitsZ_inj : ∀ (l : List Bool) {s t : BitVec 32}, bitsZ s l = bitsZ t l → s = t
  | [], _, _, h => h
  | b :: l, s, t, h => bitZ_inj (bitsZ_inj l h)

/-- As many steps without a bit. -/
def Zn : Nat → BitVec 32 → BitVec 32
  | 0, x => x
  | n + 1, x => Zn n (Z x)
theorem Zn_inj : ∀ (n : Nat) {x y : BitVec 32}, Zn n x = Zn n y → x = y
  | 0, _, _, h => h
  | n + 1, _, _, h => Z_inj (Zn_inj n h)
theorem Zn_xor : ∀ (n : Nat) (x y : BitVec 32), Zn n (x ^^^ y) = Zn n x ^^^ Zn n y
  | 0, _, _ => rfl
  | n + 1, x, y => by show Zn n (Z (x ^^^ y)) = _; rw [Z_xor, Zn_xor n]; rfl

/-- Bits, the first of them highest. -/
def top : List Bool → BitVec 32
  | [] => 0#32
  | b :: l => hi1 b ^^^ (top l >>> 1)
theorem top_low : ∀ (l : List Bool) (i : Nat), i + l.length < 32 → (top l).getLsbD i = false
  | [], i, _ => by simp [top]
  | b :: l, i, h => by
    have h' : i + 1 + l.length < 32 := by rw [List.length_cons] at h; omega
    have := top_low l (i + 1) h'
    have h31 : i < 31 := by rw [List.length_cons] at h; omega
    unfold top
    rw [BitVec.getLsbD_xor, BitVec.getLsbD_ushiftRight, Nat.add_comm 1 i, this]
    cases b
    · simp [hi1]
    · have e : (0x80000000#32 : BitVec 32) = 1#32 <<< 31 := by decide
      simp only [hi1, if_true, Bool.xor_false]
      rw [e, BitVec.getLsbD_shiftLeft]
      simp [h31]
theorem Z_shr {x : BitVec 32} (h : x.getLsbD 0 = false) : Z (x >>> 1) = x := by
  have hm : (x >>> 1).msb = false := by
    rw [BitVec.msb_eq_getLsbD_last, BitVec.getLsbD_ushiftRight]
    simp
  unfold Z
  rw [hm]
  simp only [Bool.false_eq_true, if_false, BitVec.xor_zero]
  apply BitVec.eq_of_getLsbD_eq
  intro i hi
  rw [BitVec.getLsbD_shiftLeft, BitVec.getLsbD_ushiftRight]
  cases i with
  | zero => simpa using h.symm
  | succ i => simp [hi, Nat.add_comm]
/-- Up to 32 bits at once. -/
theorem bitsZ_top : ∀ (l : List Bool) (s : BitVec 32), l.length ≤ 32 → bitsZ s l = Zn l.length (s ^^^ top l)
  | [], s, _ => by simp [bitsZ, Zn, top]
  | b :: l, s, h => by
    have hl : l.length ≤ 31 := by rw [List.length_cons] at h; omega
    show bitsZ (bitZ s b) l = Zn l.length (Z (s ^^^ (hi1 b ^^^ (top l >>> 1))))
    rw [bitsZ_top l _ (by omega), ← BitVec.xor_assoc, Z_xor, Z_shr (top_low l 0 (by omega))]
    rfl
theorem top_inj : ∀ (l k : List Bool), l.length = k.length → l.length ≤ 32 → top l = top k → l = k
  | [], [], _, _, _ => rfl
  | b :: l, c :: k, hl, h32, h => by
    simp only [List.length_cons, Nat.add_right_cancel_iff] at hl
    have h31 : l.length ≤ 31 := by rw [List.length_cons] at h32; omega
    have hb : b = c := by
      have e := congrArg (fun v => v.getLsbD 31) h
      simp only [top, BitVec.getLsbD_xor, BitVec.getLsbD_ushiftRight] at e
      cases b <;> cases c <;> simp [hi1] at e <;> rfl
    subst hb
    have e : top l >>> 1 = top k >>> 1 := by
      have := congrArg (fun v => hi1 b ^^^ v) h
      simp only [top] at this
      rwa [← BitVec.xor_assoc, ← BitVec.xor_assoc, BitVec.xor_self, BitVec.zero_xor, BitVec.zero_xor] at this
    have e2 : top l = top k := by
      rw [← Z_shr (top_low l 0 (by omega)), ← Z_shr (top_low k 0 (by omega)), e]
    rw [top_inj l k hl (by omega) e2]

/-- Bits that differ within 32 of one another have unlike sums. -/
theorem burst (s : BitVec 32) (x y : List Bool) (k : Nat) (hl : x.length = y.length) (h : ∀ j, x[j]? ≠ y[j]? → k ≤ j ∧ j < k + 32) : bitsZ s x = bitsZ s y ↔ x = y := by
  constructor
  · intro he
    have e1 : x.take k = y.take k := by
      apply List.ext_getElem?
      intro j
      rw [List.getElem?_take, List.getElem?_take]
      by_cases hj : j < k
      · rw [if_pos hj, if_pos hj]
        by_cases hq : x[j]? = y[j]?
        · exact hq
        · have := (h j hq).1; omega
      · rw [if_neg hj, if_neg hj]
    have e3 : (x.drop k).drop 32 = (y.drop k).drop 32 := by
      apply List.ext_getElem?
      intro j
      rw [List.getElem?_drop, List.getElem?_drop, List.getElem?_drop, List.getElem?_drop]
      by_cases hq : x[k + (32 + j)]? = y[k + (32 + j)]?
      · exact hq
      · have := (h _ hq).2; omega
    have d : ∀ z : List Bool, bitsZ s z = bitsZ (bitsZ (bitsZ s (z.take k)) ((z.drop k).take 32)) ((z.drop k).drop 32) := by
      intro z
      rw [← bitsZ_append, ← bitsZ_append, List.take_append_drop, List.take_append_drop]
    rw [d x, d y, e1, e3] at he
    have he2 := bitsZ_inj _ he
    have hlx : ((x.drop k).take 32).length ≤ 32 := by rw [List.length_take]; omega
    have hly : ((y.drop k).take 32).length ≤ 32 := by rw [List.length_take]; omega
    have hlm : ((x.drop k).take 32).length = ((y.drop k).take 32).length := by rw [List.length_take, List.length_take, List.length_drop, List.length_drop, hl]
    rw [bitsZ_top _ _ hlx, bitsZ_top _ _ hly, hlm] at he2
    have he3 := Zn_inj _ he2
    have he4 : top ((x.drop k).take 32) = top ((y.drop k).take 32) := by
      have := congrArg (fun v => bitsZ s (y.take k) ^^^ v) he3
      rwa [← BitVec.xor_assoc, ← BitVec.xor_assoc, BitVec.xor_self, BitVec.zero_xor, BitVec.zero_xor] at this
    have e2 := top_inj _ _ hlm hlx he4
    rw [← List.take_append_drop k x, ← List.take_append_drop k y, ← List.take_append_drop 32 (x.drop k), ← List.take_append_drop 32 (y.drop k), e1, e2, e3]
  · intro e; rw [e]

end Go.Proofs.Ytfnkeknnlndjcaa.Chk
