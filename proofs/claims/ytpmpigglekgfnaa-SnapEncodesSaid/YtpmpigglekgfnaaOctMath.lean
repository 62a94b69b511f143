/- Octet: bytes as plain data: a number's eight bytes, and what bytes come to. -/
import Derived.Test.YtpmpigglekgfnaaKit
namespace Go.Proofs.Ytpmpigglekgfnaa.Oct
open Go.RowKit
open Go.Sort

/-- A byte's cell. -/
def encB (b : UInt8) : List Value := [.int .u8 (b.toNat : Int)]
theorem encB_len (b : UInt8) : (encB b).length = 1 := rfl
theorem encB_one (b : UInt8) : ∀ u ∈ encB b, u.oneCell' = true := by
  intro u hu
  simp [encB] at hu
  subst hu; rfl

/-- Bytes that lie in memory. -/
abbrev RowB (w : World) (a : Option Addr) (l : List UInt8) : Prop := Kit.Row encB 1 w a l

/-- The k lowest bytes, the highest of them first. -/
def beB : Nat → Nat → List UInt8
  | 0, _ => []
  | k + 1, n => UInt8.ofNat (n / 256 ^ k) :: beB k n
theorem beB_length : ∀ k n, (beB k n).length = k
  | 0, _ => rfl
  | k + 1, n => by simp [beB, beB_length k n]

/-- What bytes come to, on top of m. -/
def numF (m : Nat) (l : List UInt8) : Nat := l.foldl (fun n b => (n * 256 + b.toNat) % 18446744073709551616) m
def numB (l : List UInt8) : Nat := numF 0 l
theorem numF_snoc (m : Nat) (l : List UInt8) (b : UInt8) : numF m (l ++ [b]) = (numF m l * 256 + b.toNat) % 18446744073709551616 := by
  unfold numF; rw [List.foldl_append]; rfl
theorem numF_lt (m : Nat) (hm : m < 18446744073709551616) (l : List UInt8) : numF m l < 18446744073709551616 := by
  rcases List.eq_nil_or_concat l with rfl | ⟨l', b, rfl⟩
  · exact hm
  · rw [List.concat_eq_append, numF_snoc]; exact Nat.mod_lt _ (by decide)
theorem numB_lt (l : List UInt8) : numB l < 18446744073709551616 := numF_lt 0 (by decide) l

theorem u8_of (n : Nat) : (UInt8.ofNat n).toNat = n % 256 := by simp

theorem numF_be : ∀ (k n m : Nat), (m * 256 ^ k + n % 256 ^ k) < 18446744073709551616 → numF m (beB k n) = m * 256 ^ k + n % 256 ^ k
  | 0, n, m, _ => by simp [numF, beB, Nat.mod_one]
  | k + 1, n, m, h => by
    show numF ((m * 256 + (UInt8.ofNat (n / 256 ^ k)).toNat) % 18446744073709551616) (beB k n) = _
    rw [u8_of]
    have e1 : n % 256 ^ (k + 1) = n % 256 ^ k + 256 ^ k * (n / 256 ^ k % 256) := by rw [Nat.pow_succ, Nat.mod_mul]
    have e2 : m * 256 ^ (k + 1) = m * 256 * 256 ^ k := by rw [Nat.pow_succ]; ac_rfl
    have e3 : (m * 256 + n / 256 ^ k % 256) * 256 ^ k = m * 256 * 256 ^ k + 256 ^ k * (n / 256 ^ k % 256) := by rw [Nat.add_mul]; ac_rfl
    have hp : 0 < 256 ^ k := Nat.pow_pos (by decide)
    have e4 : m * 256 + n / 256 ^ k % 256 ≤ (m * 256 + n / 256 ^ k % 256) * 256 ^ k := Nat.le_mul_of_pos_right _ hp
    have hlt : m * 256 + n / 256 ^ k % 256 < 18446744073709551616 := by omega
    rw [Nat.mod_eq_of_lt hlt]
    rw [numF_be k n _ (by omega)]
    omega

/-- Eight bytes come back as the number that they are of. -/
theorem numB_be8 (n : Nat) (h : n < 18446744073709551616) : numB (beB 8 n) = n := by
  have e := numF_be 8 n 0 (by simp; omega)
  unfold numB
  rw [e]
  simp; omega
theorem numB_be2 (n : Nat) (h : n < 65536) : numB (beB 2 n) = n := by
  have e := numF_be 2 n 0 (by simp; omega)
  unfold numB
  rw [e]
  simp; omega
theorem numB_two (l : List UInt8) (h : l.length = 2) : numB l < 65536 := by
  match l, h with
  | [a, b], _ =>
    have := a.toNat_lt; have := b.toNat_lt
    simp [numB, numF]; omega

end Go.Proofs.Ytpmpigglekgfnaa.Oct
