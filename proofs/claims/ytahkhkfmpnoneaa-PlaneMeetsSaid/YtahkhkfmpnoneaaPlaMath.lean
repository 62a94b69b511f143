/- Plane: boxes as whole numbers. -/
import Derived.Test.YtahkhkfmpnoneaaFloBig
namespace Go.Proofs.Ytahkhkfmpnoneaa.Pla

/-- May a box be? -/
def goodB (t n l m : Int) : Bool := decide (0 ≤ t ∧ t ≤ 1099511627776 ∧ 1 ≤ l ∧ l ≤ 1048576 ∧ 0 ≤ n ∧ n ≤ 31 ∧ 1 ≤ m ∧ m ≤ 32 ∧ n + m ≤ 32)
theorem goodB_iff {t n l m : Int} : goodB t n l m = true ↔ 0 ≤ t ∧ t ≤ 1099511627776 ∧ 1 ≤ l ∧ l ≤ 1048576 ∧ 0 ≤ n ∧ n ≤ 31 ∧ 1 ≤ m ∧ m ≤ 32 ∧ n + m ≤ 32 := by
  unfold goodB; rw [decide_eq_true_iff]

/-- Do two that may be meet? -/
def crossB (t n l m t' n' l' m' : Int) : Bool := decide (t < t' + l' ∧ t' < t + l ∧ n < n' + m' ∧ n' < n + m)
theorem crossB_iff {t n l m t' n' l' m' : Int} : crossB t n l m t' n' l' m' = true ↔ t < t' + l' ∧ t' < t + l ∧ n < n' + m' ∧ n' < n + m := by
  unfold crossB; rw [decide_eq_true_iff]
def meetsB (t n l m t' n' l' m' : Int) : Bool := goodB t n l m && goodB t' n' l' m' && crossB t n l m t' n' l' m'
def areaN (t n l m : Int) : Int := if goodB t n l m = true then l * m else 0

theorem crossB_comm (t n l m t' n' l' m' : Int) : crossB t n l m t' n' l' m' = crossB t' n' l' m' t n l m := by
  rw [Bool.eq_iff_iff, crossB_iff, crossB_iff]; omega
theorem meetsB_comm (t n l m t' n' l' m' : Int) : meetsB t n l m t' n' l' m' = meetsB t' n' l' m' t n l m := by
  unfold meetsB; rw [crossB_comm, Bool.and_comm (goodB t n l m)]

theorem area_bound {l m : Int} (h1 : 1 ≤ l) (h2 : l ≤ 1048576) (h3 : 1 ≤ m) (h4 : m ≤ 32) : 1 ≤ l * m ∧ l * m ≤ 33554432 := by
  constructor
  · have := Int.mul_le_mul h1 h3 (by omega) (by omega); omega
  · have := Int.mul_le_mul h2 h4 (by omega) (by omega); omega

/-! ## Floats -/

def leF (x y : Nat) : Bool := FloatKind.f64.format.order x y == some .lt || FloatKind.f64.format.order x y == some .eq
def ltF (x y : Nat) : Bool := FloatKind.f64.format.order x y == some .lt

def Lit64 (n : Int) : Prop := n.natAbs < 18446744073709551616
theorem leF_near {a b : Int} (h : (a.natAbs < 18446744073709551616 ∧ b.natAbs < 9007199254740992) ∨ (b.natAbs < 18446744073709551616 ∧ a.natAbs < 9007199254740992)) : leF (Flo.near a) (Flo.near b) = decide (a ≤ b) := by
  have e : Ieee.double.order (Flo.near a) (Flo.near b) = some (compare a b) := by
    rcases h with ⟨h1, h2⟩ | ⟨h1, h2⟩
    · exact (Flo.order_one a b h1 h2).1
    · exact (Flo.order_one b a h1 h2).2
  show (Ieee.double.order (Flo.near a) (Flo.near b) == some .lt || Ieee.double.order (Flo.near a) (Flo.near b) == some .eq) = _
  rw [e]
  rcases Int.lt_trichotomy a b with h | h | h
  · rw [Int.compare_eq_lt.2 h, decide_eq_true (by omega)]; rfl
  · rw [Int.compare_eq_eq.2 h, decide_eq_true (by omega)]; rfl
  · rw [Int.compare_eq_gt.2 h, decide_eq_false (by omega)]; rfl

theorem ltF_near {a b : Int} (h1 : a.natAbs < 9007199254740992) (h2 : b.natAbs < 9007199254740992) : ltF (Flo.near a) (Flo.near b) = decide (a < b) := by
  have e := Flo.order_near a b h1 h2
  show (Ieee.double.order (Flo.near a) (Flo.near b) == some .lt) = _
  rw [e]
  rcases Int.lt_trichotomy a b with h | h | h
  · rw [Int.compare_eq_lt.2 h, decide_eq_true (by omega)]; rfl
  · rw [Int.compare_eq_eq.2 h, decide_eq_false (by omega)]; rfl
  · rw [Int.compare_eq_gt.2 h, decide_eq_false (by omega)]; rfl

theorem near_0 : Flo.near 0 = 0 := by decide
theorem near_1 : Flo.near 1 = 4607182418800017408 := by decide
theorem near_31 : Flo.near 31 = 4629418941960159232 := by decide
theorem near_32 : Flo.near 32 = 4629700416936869888 := by decide
theorem near_wall : Flo.near 1048576 = 4697254411347427328 := by decide
theorem near_time : Flo.near 1099511627776 = 4787326403894837248 := by decide

end Go.Proofs.Ytahkhkfmpnoneaa.Pla
