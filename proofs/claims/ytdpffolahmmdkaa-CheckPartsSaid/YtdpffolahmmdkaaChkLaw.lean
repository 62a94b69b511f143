/- Check: what the laws share: sums as arguments; bits that are turned; four bytes behind others. -/
import Derived.Test.YtdpffolahmmdkaaChkCode
import Derived.Test.YtdpffolahmmdkaaRegRel
import Derived.Test.YtdpffolahmmdkaaTwo
namespace Go.Proofs.Ytdpffolahmmdkaa.Chk
open Go.RowKit
open Go.Sort
open Kit
open Oct
set_option linter.unusedVariables false

theorem u32_arg {a : Int} (h : (Lit.int .u32 a).wf = true) : ∃ s : BitVec 32, a = (s.toNat : Int) := by
  simp [Lit.wf, IntKind.min, IntKind.max, IntKind.signed, IntKind.bits] at h
  refine ⟨BitVec.ofNat 32 a.toNat, ?_⟩
  rw [BitVec.toNat_ofNat]; omega
theorem row_short {w : World} {a : Option Addr} {l : List UInt8} (h : RowB w a l) : RowB w a (cutB l) := row_take h 2000
theorem sumB_append (l k : List UInt8) : sumB (l ++ k) = crc (sumB l) k := crc_append _ _ _
theorem eq_uv (s t : BitVec 32) (x y : Operand) (T : TypeId) (hT : Try.prog.underlying T = some (.int .u32)) (w : World) : (do eqGuard .eql T x y (uv s) (uv t); binOp .eql T (uv s) (uv t) : Sem Value).run Try.prog w = .ok (.bool (decide (s = t))) w := by
  have e : ((s.toNat : Int) == (t.toNat : Int)) = decide (s = t) := by
    rw [Bool.eq_iff_iff, beq_iff_eq, decide_eq_true_iff]
    constructor
    · intro h; exact BitVec.eq_of_toNat_eq (by omega)
    · intro h; rw [h]
  rw [← e]
  simp [go_sem]

/-! ### Four bytes behind others -/

theorem numF_nat (l : List UInt8) (n : Nat) (h : n < 4294967296) (hl : l = beB 4 n) : numF 0 l = n := by
  subst hl
  have := numF_be 4 n 0 (by simp; omega)
  rw [this]; simp; omega
theorem be4_inj {m n : BitVec 32} (h : beB 4 m.toNat = beB 4 n.toNat) : m = n := by
  apply BitVec.eq_of_toNat_eq
  rw [← numF_nat _ m.toNat m.isLt rfl, h, numF_nat _ n.toNat n.isLt rfl]
theorem four_is (X : List UInt8) (m n : BitVec 32) : (((sumB (X ++ beB 4 m.toNat)).toNat : Int) == ((sumB (X ++ beB 4 n.toNat)).toNat : Int)) = ((m.toNat : Int) == (n.toNat : Int)) := by
  rw [Bool.eq_iff_iff, beq_iff_eq, beq_iff_eq]
  have := crc_four 0xffffffff#32 X (beB 4 m.toNat) (beB 4 n.toNat) (beB_length _ _) (beB_length _ _)
  constructor
  · intro h
    have h1 : sumB (X ++ beB 4 m.toNat) = sumB (X ++ beB 4 n.toNat) := BitVec.eq_of_toNat_eq (by omega)
    rw [be4_inj (this.1 h1)]
  · intro h
    have h1 : m = n := BitVec.eq_of_toNat_eq (by omega)
    rw [h1]

/-! ### Bits that are turned -/

/-- One bit of a byte. -/
def flip1 (b : UInt8) (r : Nat) : UInt8 := UInt8.ofNat (b.toNat ^^^ (128 / 2 ^ r))
def flipAt (l : List UInt8) (q r : Nat) : List UInt8 := l.set q (flip1 (l.getD q 0) r)
theorem flipAt_length (l : List UInt8) (q r : Nat) : (flipAt l q r).length = l.length := by simp [flipAt]
theorem flip1_bits (b : UInt8) (r r' : Nat) (h : r < 8) (h' : r' < 8) : (bitsOf (flip1 b r))[r']? = if r' = r then ((bitsOf b)[r']?).map (!·) else (bitsOf b)[r']? := by
  have hp : (128 : Nat) / 2 ^ r = 2 ^ (7 - r) := by
    rcases (by omega : r = 0 ∨ r = 1 ∨ r = 2 ∨ r = 3 ∨ r = 4 ∨ r = 5 ∨ r = 6 ∨ r = 7) with rfl | rfl | rfl | rfl | rfl | rfl | rfl | rfl <;> rfl
  have hx : (flip1 b r).toNat = b.toNat ^^^ 2 ^ (7 - r) := by
    unfold flip1
    rw [u8_of, hp, Nat.mod_eq_of_lt]
    exact Nat.xor_lt_two_pow (n := 8) b.toNat_lt (Nat.pow_lt_pow_right (by decide) (by omega))
  rw [bitsOf_at _ r' h', bitsOf_at _ r' h', hx, Nat.testBit_xor, Nat.testBit_two_pow]
  by_cases he : r' = r
  · subst he; simp
  · rw [if_neg he, show decide (7 - r = 7 - r') = false by rw [decide_eq_false_iff_not]; omega, Bool.xor_false]
theorem flipAt_bits (l : List UInt8) (q r : Nat) (hq : q < l.length) (hr : r < 8) (j : Nat) : (bits (flipAt l q r))[j]? = if j = 8 * q + r then ((bits l)[j]?).map (!·) else (bits l)[j]? := by
  have hj : j = 8 * (j / 8) + j % 8 := (Nat.div_add_mod j 8).symm
  have hm : j % 8 < 8 := Nat.mod_lt _ (by decide)
  rw [hj, bits_at _ _ _ hm, bits_at _ _ _ hm]
  unfold flipAt
  rw [List.getElem?_set]
  by_cases he : q = j / 8
  · rw [if_pos he, if_pos hq, ← he, List.getElem?_eq_getElem hq]
    have hd : l.getD q 0 = l[q] := by simp [List.getD, List.getElem?_eq_getElem hq]
    rw [hd]
    simp only [Option.bind_some]
    rw [flip1_bits _ _ _ hr hm]
    by_cases h2 : j % 8 = r
    · rw [if_pos h2, if_pos (by omega)]
    · rw [if_neg h2, if_neg (by omega)]
  · rw [if_neg he, if_neg (by omega)]

/-- What the turning has come to: only bits from k on, up to i, differ; 'same' tells whether any does. -/
structure Turned (X Y : List UInt8) (k i : Nat) (same : Bool) : Prop where
  len : Y.length = X.length
  near : ∀ j, (bits X)[j]? ≠ (bits Y)[j]? → k ≤ j ∧ j < k + i
  tell : same = decide (X = Y)
theorem turned_zero (X : List UInt8) (k : Nat) : Turned X X k 0 true := ⟨rfl, fun j h => absurd rfl h, by simp⟩
theorem turned_skip {X Y : List UInt8} {k i : Nat} {same : Bool} (h : Turned X Y k i same) : Turned X Y k (i + 1) same := ⟨h.len, fun j hj => by have := h.near j hj; omega, h.tell⟩
theorem turned_turn {X Y : List UInt8} {k i : Nat} {same : Bool} (h : Turned X Y k i same) (hi : k + i < 8 * X.length) : Turned X (flipAt Y ((k + i) / 8) ((k + i) % 8)) k (i + 1) false := by
  have hq : (k + i) / 8 < Y.length := by rw [h.len]; omega
  have hm : (k + i) % 8 < 8 := Nat.mod_lt _ (by decide)
  have hp : k + i = 8 * ((k + i) / 8) + (k + i) % 8 := (Nat.div_add_mod _ 8).symm
  have hb := fun j => flipAt_bits Y ((k + i) / 8) ((k + i) % 8) hq hm j
  have hat : (bits X)[k + i]? ≠ (bits (flipAt Y ((k + i) / 8) ((k + i) % 8)))[k + i]? := by
    rw [hb, if_pos hp]
    have hs : (bits X)[k + i]? = (bits Y)[k + i]? := by
      by_cases hs : (bits X)[k + i]? = (bits Y)[k + i]?
      · exact hs
      · have := (h.near _ hs).2; omega
    rw [hs]
    have hlt : k + i < (bits Y).length := by rw [bits_length, h.len]; exact hi
    rw [List.getElem?_eq_getElem hlt]
    simp
  refine ⟨by rw [flipAt_length]; exact h.len, fun j hj => ?_, ?_⟩
  · rw [hb] at hj
    by_cases he : j = 8 * ((k + i) / 8) + (k + i) % 8
    · omega
    · rw [if_neg he] at hj
      have := h.near j hj; omega
  · symm
    rw [decide_eq_false_iff_not]
    intro he
    exact hat (by rw [← he])
theorem turned_sum {X Y : List UInt8} {k i : Nat} {same : Bool} (h : Turned X Y k i same) (hi : i ≤ 32) : (((sumB X).toNat : Int) == ((sumB Y).toNat : Int)) = same := by
  rw [h.tell, Bool.eq_iff_iff, beq_iff_eq, decide_eq_true_iff]
  have := crc_burst 0xffffffff#32 X Y k h.len.symm (fun j hj => by have := h.near j hj; omega)
  constructor
  · intro e
    exact this.1 (BitVec.eq_of_toNat_eq (by show (sumB X).toNat = (sumB Y).toNat; omega))
  · intro e; rw [e]

end Go.Proofs.Ytdpffolahmmdkaa.Chk
