/- Octet: what a Reader's state is, what numbers and texts are as bytes, there and back: no function of a program. -/
import Derived.Test.YtpmpigglekgfnaaOctByte
namespace Go.Proofs.Ytpmpigglekgfnaa.Oct
open Go.RowKit
open Go.Sort
open Kit
set_option linter.unusedVariables false

/-- A Reader's state: what is left to read; none: it is bad. -/
abbrev RS := Option (List UInt8)

def toI64 (n : Nat) : Int := if n < 9223372036854775808 then (n : Int) else (n : Int) - 18446744073709551616
def rInt : RS → Int × RS
  | some l => if 8 ≤ l.length then (toI64 (numB (l.take 8)), some (l.drop 8)) else (0, none)
  | none => (0, none)
def rText (most : Int) : RS → ByteArray × RS
  | some l => if 2 ≤ l.length ∧ ((numB (l.take 2) : Nat) : Int) ≤ most ∧ numB (l.take 2) ≤ l.length - 2 then (⟨((l.drop 2).take (numB (l.take 2))).toArray⟩, some ((l.drop 2).drop (numB (l.take 2)))) else (⟨#[]⟩, none)
  | none => (⟨#[]⟩, none)

theorem wrap_i64 (n : Nat) (h : n < 18446744073709551616) : wrap64 (n : Int) = toI64 n := by
  unfold toI64 wrap64
  split <;> omega
theorem rText_bad {most : Int} {s : RS} (h : ∀ l, s = some l → ¬ (2 ≤ l.length ∧ ((numB (l.take 2) : Nat) : Int) ≤ most ∧ numB (l.take 2) ≤ l.length - 2)) : rText most s = (⟨#[]⟩, none) := by
  cases s with
  | none => rfl
  | some l => simp only [rText]; exact if_neg (h l rfl)
theorem rText_ok {most : Int} {l : List UInt8} (h : 2 ≤ l.length ∧ ((numB (l.take 2) : Nat) : Int) ≤ most ∧ numB (l.take 2) ≤ l.length - 2) : rText most (some l) = (⟨((l.drop 2).take (numB (l.take 2))).toArray⟩, some ((l.drop 2).drop (numB (l.take 2)))) := by
  simp only [rText]; exact if_pos h
theorem wrap_small (n : Nat) (h : n < 65536) : wrap64 (n : Int) = (n : Int) := by unfold wrap64; omega

/-- Two's complement, as a number without bound. -/
def toU64 (n : Int) : Nat := (n % 18446744073709551616).toNat
theorem toU64_lt (n : Int) : toU64 n < 18446744073709551616 := by unfold toU64; omega
theorem toI_toU (n : Int) (h1 : -9223372036854775808 ≤ n) (h2 : n ≤ 9223372036854775807) : toI64 (toU64 n) = n := by unfold toI64 toU64; omega
theorem wrap_u (n : Int) : IntKind.u64.wrap n = (toU64 n : Int) := by rw [IntKind.wrap_u64]; unfold toU64; omega

theorem byte_w (n : Int) (k : Nat) : Value.int .u8 (IntKind.u64.wrap n / 2 ^ (8 * k) % 256) = .int .u8 ((UInt8.ofNat (toU64 n / 2 ^ (8 * k))).toNat : Int) := by rw [wrap_u]; exact byte_val _ _
theorem be_two (n : Nat) : beB 2 n = [UInt8.ofNat (n / 256), UInt8.ofNat (n % 256)] := by
  show [UInt8.ofNat (n / 256 ^ 1), UInt8.ofNat (n / 256 ^ 0)] = _
  rw [Nat.pow_one, Nat.pow_zero, Nat.div_one]
  congr 2
  apply UInt8.toNat.inj
  rw [u8_of, u8_of, Nat.mod_mod]
theorem two_bytes (l : List UInt8) (p : Nat) (h : p + 2 ≤ l.length) : numB ((l.drop p).take 2) = l[p].toNat * 256 + l[p + 1].toNat := by
  have e : (l.drop p).take 2 = [l[p], l[p + 1]] := by
    rw [List.drop_eq_getElem_cons (by omega), List.drop_eq_getElem_cons (by omega)]
    rfl
  have := (l[p]).toNat_lt; have := (l[p + 1]).toNat_lt
  rw [e]; simp [numB, numF]; omega

def val : List UInt8 → Nat
  | [] => 0
  | b :: l => b.toNat * 256 ^ l.length + val l
theorem val_lt : ∀ l : List UInt8, val l < 256 ^ l.length
  | [] => by simp [val]
  | b :: l => by
    have h := val_lt l
    have hb := b.toNat_lt
    have e : 256 ^ (b :: l).length = 256 * 256 ^ l.length := by rw [List.length_cons, Nat.pow_succ, Nat.mul_comm]
    have h2 : (b.toNat + 1) * 256 ^ l.length ≤ 256 * 256 ^ l.length := Nat.mul_le_mul_right _ (by omega)
    rw [Nat.add_mul] at h2
    rw [e]
    show b.toNat * 256 ^ l.length + val l < _
    omega
theorem numF_val : ∀ (l : List UInt8) (m : Nat), (m + 1) * 256 ^ l.length ≤ 18446744073709551616 → numF m l = m * 256 ^ l.length + val l
  | [], m, _ => by simp [numF, val]
  | b :: l, m, h => by
    have hb := b.toNat_lt
    have hp : 0 < 256 ^ l.length := Nat.pow_pos (by decide)
    have e : 256 ^ (b :: l).length = 256 * 256 ^ l.length := by rw [List.length_cons, Nat.pow_succ, Nat.mul_comm]
    rw [e, ← Nat.mul_assoc] at h
    have h3 : (m * 256 + b.toNat + 1) * 256 ^ l.length ≤ (m + 1) * 256 * 256 ^ l.length := Nat.mul_le_mul_right _ (by omega)
    have h4 : m * 256 + b.toNat + 1 ≤ (m * 256 + b.toNat + 1) * 256 ^ l.length := Nat.le_mul_of_pos_right _ hp
    show numF ((m * 256 + b.toNat) % 18446744073709551616) l = _
    rw [Nat.mod_eq_of_lt (by omega), numF_val l _ (by omega), e]
    show _ = m * (256 * 256 ^ l.length) + (b.toNat * 256 ^ l.length + val l)
    rw [Nat.add_mul, Nat.mul_assoc]; omega
theorem be_val : ∀ (l : List UInt8) (x : Nat), beB l.length (x * 256 ^ l.length + val l) = l
  | [], _ => rfl
  | b :: l, x => by
    have hp : 0 < 256 ^ l.length := Nat.pow_pos (by decide)
    have hv := val_lt l
    have e : x * 256 ^ (b :: l).length + val (b :: l) = (x * 256 + b.toNat) * 256 ^ l.length + val l := by
      show x * 256 ^ (l.length + 1) + (b.toNat * 256 ^ l.length + val l) = _
      rw [Nat.add_mul, Nat.pow_succ, Nat.mul_assoc, Nat.mul_comm 256 (256 ^ l.length)]; omega
    rw [e]
    show UInt8.ofNat (((x * 256 + b.toNat) * 256 ^ l.length + val l) / 256 ^ l.length) :: beB l.length _ = _
    rw [be_val l]
    congr 1
    rw [Nat.add_comm, Nat.add_mul_div_right _ _ hp, Nat.div_eq_of_lt hv, Nat.zero_add]
    apply UInt8.toNat.inj
    rw [u8_of]
    have := b.toNat_lt
    omega
/-- Eight bytes are the bytes of what they come to. -/
theorem be_num8 (l : List UInt8) (h : l.length = 8) : beB 8 (numB l) = l := by
  have e := numF_val l 0 (by rw [h]; decide)
  unfold numB
  rw [e]
  have := be_val l 0
  rw [h] at this ⊢
  exact this
theorem toU_toI (n : Nat) (h : n < 18446744073709551616) : toU64 (toI64 n) = n := by unfold toU64 toI64; split <;> omega
theorem be_back (l : List UInt8) (h : l.length = 8) : beB 8 (toU64 (toI64 (numB l))) = l := by rw [toU_toI _ (numB_lt l), be_num8 l h]

theorem two_bytes' {l : List UInt8} (h : 2 ≤ l.length) : [UInt8.ofNat (numB (l.take 2) / 256), UInt8.ofNat (numB (l.take 2) % 256)] = l.take 2 := by
  match l, h with
  | a :: b :: r, _ =>
    have ha := a.toNat_lt
    have hb := b.toNat_lt
    have e : numB ([a, b]) = a.toNat * 256 + b.toNat := by simp [numB, numF]; omega
    show [UInt8.ofNat (numB [a, b] / 256), UInt8.ofNat (numB [a, b] % 256)] = [a, b]
    rw [e]
    have e1 : UInt8.ofNat ((a.toNat * 256 + b.toNat) / 256) = a := by apply UInt8.toNat.inj; rw [u8_of]; omega
    have e2 : UInt8.ofNat ((a.toNat * 256 + b.toNat) % 256) = b := by apply UInt8.toNat.inj; rw [u8_of]; omega
    rw [e1, e2]
end Go.Proofs.Ytpmpigglekgfnaa.Oct
