/- Plane: runs and the bits of a mask, plain. -/
import Derived.Test.YtahkhkfmpnoneaaPlaAwake
namespace Go.Proofs.Ytahkhkfmpnoneaa.Pla
open Go.RowKit

/-- From p on, up to n: the runs, one behind the other, have just the nodes of f. -/
def Chain (f : Nat → Bool) : Nat → List (Nat × Nat) → Nat → Prop
  | p, [], n => p ≤ n ∧ ∀ i, p ≤ i → i < n → f i = false
  | p, (a, k) :: l, n => p ≤ a ∧ 1 ≤ k ∧ a + k ≤ n ∧ (∀ i, p ≤ i → i < a → f i = false) ∧ (∀ i, a ≤ i → i < a + k → f i = true) ∧ Chain f (a + k) l n

theorem chain_skip {f : Nat → Bool} {n : Nat} (h : f n = false) : ∀ {l : List (Nat × Nat)} {p : Nat}, Chain f p l n → Chain f p l (n + 1)
  | [], p, hc => ⟨by have := hc.1; omega, fun i h1 h2 => by
      by_cases he : i = n
      · rw [he]; exact h
      · exact hc.2 i h1 (by omega)⟩
  | (a, k) :: l, p, ⟨h1, h2, h3, h4, h5, h6⟩ => ⟨h1, h2, by omega, h4, h5, chain_skip h h6⟩
theorem chain_new {f : Nat → Bool} {n : Nat} (h : f n = true) : ∀ {l : List (Nat × Nat)} {p : Nat}, Chain f p l n → Chain f p (l ++ [(n, 1)]) (n + 1)
  | [], p, hc => ⟨hc.1, by omega, by omega, fun i h1 h2 => hc.2 i h1 h2, fun i h1 h2 => by
      have : i = n := by omega
      rw [this]; exact h, by omega, fun i h1 h2 => by omega⟩
  | (a, k) :: l, p, ⟨h1, h2, h3, h4, h5, h6⟩ => ⟨h1, h2, by omega, h4, h5, chain_new h h6⟩
theorem chain_more {f : Nat → Bool} {n a k : Nat} (h : f n = true) (he : a + k = n) : ∀ {l : List (Nat × Nat)} {p : Nat}, Chain f p (l ++ [(a, k)]) n → Chain f p (l ++ [(a, k + 1)]) (n + 1)
  | [], p, ⟨h1, h2, h3, h4, h5, _⟩ => ⟨h1, by omega, by omega, h4, fun i g1 g2 => by
      by_cases hi : i = n
      · rw [hi]; exact h
      · exact h5 i g1 (by omega), by omega, fun i h1 h2 => by omega⟩
  | (b, j) :: l, p, ⟨h1, h2, h3, h4, h5, h6⟩ => ⟨h1, h2, by omega, h4, h5, chain_more h he h6⟩
theorem runs_end {f : Nat → Bool} : ∀ n, f n = true → ∃ l a k, runs f (n + 1) = l ++ [(a, k)] ∧ a + k = n + 1
  | 0, h => ⟨[], 0, 1, by rw [runs_new h (.inl rfl)]; rfl, by omega⟩
  | n + 1, h => by
    cases h1 : f n with
    | false => exact ⟨runs f (n + 1), n + 1, 1, runs_new h (.inr h1), by omega⟩
    | true =>
      obtain ⟨l, a, k, e, h2⟩ := runs_end n h1
      exact ⟨l, a, k + 1, by rw [runs_more h (by omega) h1, e, bump_snoc], by omega⟩
theorem chain_runs (f : Nat → Bool) : ∀ n, Chain f 0 (runs f n) n
  | 0 => ⟨Nat.le_refl _, fun i _ h => by omega⟩
  | n + 1 => by
    have ih := chain_runs f n
    cases h : f n with
    | false => rw [runs_skip h]; exact chain_skip h ih
    | true =>
      by_cases h0 : n = 0
      · subst h0; rw [runs_new h (.inl rfl)]; exact chain_new h ih
      · cases h1 : f (n - 1) with
        | false => rw [runs_new h (.inr h1)]; exact chain_new h ih
        | true =>
          obtain ⟨l, a, k, e, he⟩ := runs_end (n - 1) h1
          rw [show n - 1 + 1 = n by omega] at e he
          rw [runs_more h (by omega) h1, e, bump_snoc]
          rw [e] at ih
          exact chain_more h he ih

theorem chain_le {f : Nat → Bool} {n : Nat} : ∀ {l : List (Nat × Nat)} {p : Nat}, Chain f p l n → p ≤ n
  | [], _, h => h.1
  | (a, k) :: l, p, ⟨h1, h2, h3, _⟩ => by omega

/-- A run lies in the chain. -/
theorem chain_mem {f : Nat → Bool} {n : Nat} : ∀ {l : List (Nat × Nat)} {p : Nat}, Chain f p l n → ∀ r ∈ l, p ≤ r.1 ∧ 1 ≤ r.2 ∧ r.1 + r.2 ≤ n ∧ ∀ i, r.1 ≤ i → i < r.1 + r.2 → f i = true
  | [], _, _, r, hr => by cases hr
  | (a, k) :: l, p, ⟨h1, h2, h3, h4, h5, h6⟩, r, hr => by
    rcases List.mem_cons.1 hr with rfl | hr
    · exact ⟨h1, h2, h3, h5⟩
    · obtain ⟨g1, g2⟩ := chain_mem h6 r hr
      exact ⟨by omega, g2⟩
theorem chain_has {f : Nat → Bool} {n : Nat} : ∀ {l : List (Nat × Nat)} {p : Nat}, Chain f p l n → ∀ i, p ≤ i → i < n → f i = true → ∃ r ∈ l, r.1 ≤ i ∧ i < r.1 + r.2
  | [], _, h, i, h1, h2, h3 => by rw [h.2 i h1 h2] at h3; cases h3
  | (a, k) :: l, p, ⟨h1, h2, h3, h4, h5, h6⟩, i, g1, g2, g3 => by
    by_cases hi : i < a
    · rw [h4 i g1 hi] at g3; cases g3
    · by_cases hk : i < a + k
      · exact ⟨(a, k), by simp, by simpa using Nat.le_of_not_lt hi, hk⟩
      · obtain ⟨r, hr, h⟩ := chain_has h6 i (by omega) g2 g3
        exact ⟨r, by simp [hr], h⟩
/-- Earlier runs end ahead of later ones. -/
theorem chain_sorted {f : Nat → Bool} {n : Nat} : ∀ {l : List (Nat × Nat)} {p : Nat}, Chain f p l n → ∀ i j (hi : i < l.length) (hj : j < l.length), i < j → l[i].1 + l[i].2 ≤ l[j].1
  | [], _, _, i, j, hi, _, _ => by simp at hi
  | (a, k) :: l, p, ⟨h1, h2, h3, h4, h5, h6⟩, 0, j + 1, _, hj, _ => by
    have hj' : j < l.length := by simpa using hj
    have := (chain_mem h6 l[j] (List.getElem_mem hj')).1
    simpa using this
  | (a, k) :: l, p, ⟨h1, h2, h3, h4, h5, h6⟩, i + 1, j + 1, hi, hj, hij => by
    simpa using chain_sorted h6 i j (by simpa using hi) (by simpa using hj) (by omega)

/-! ## A mask's lowest bits, and how many there are -/

theorem bit_cases (a : Int) (n : Nat) : (bitB a n = true ∧ a / 2 ^ n % 2 = 1) ∨ (bitB a n = false ∧ a / 2 ^ n % 2 = 0) := by
  rw [bitB_mod]
  rcases Int.emod_two_eq (a / 2 ^ n) with h | h
  · exact .inr ⟨by rw [h]; rfl, h⟩
  · exact .inl ⟨by rw [h]; rfl, h⟩
theorem low_succ (a : Int) (n : Nat) : a % 2 ^ (n + 1) = a % 2 ^ n + 2 ^ n * (a / 2 ^ n % 2) := by
  rw [Int.pow_succ]
  have hp : (0 : Int) < 2 ^ n := Int.pow_pos (by decide)
  generalize (2 : Int) ^ n = p at *
  have h1 := Int.mul_ediv_add_emod a p
  have h2 := Int.mul_ediv_add_emod (a / p) 2
  have h3 := Int.emod_nonneg a (Int.ne_of_gt hp)
  have h4 := Int.emod_lt_of_pos a hp
  generalize a / p = q at *
  generalize a % p = r at *
  have e : a = (p * 2) * (q / 2) + (r + p * (q % 2)) := by
    rw [← h1]
    have : p * q = p * (2 * (q / 2) + q % 2) := by rw [h2]
    rw [this, Int.mul_add, Int.mul_assoc]; omega
  have h5 : p * (q % 2) = 0 ∨ p * (q % 2) = p := by
    rcases Int.emod_two_eq q with h | h <;> rw [h]
    · left; exact Int.mul_zero _
    · right; exact Int.mul_one _
  rw [e, Int.mul_add_emod_self_left, Int.emod_eq_of_lt (by omega) (by omega)]
theorem low_yes {a : Int} {n : Nat} (h : bitB a n = true) : a % 2 ^ (n + 1) = a % 2 ^ n + 2 ^ n := by
  rcases bit_cases a n with ⟨_, e⟩ | ⟨h', _⟩
  · rw [low_succ, e, Int.mul_one]
  · rw [h] at h'; cases h'
theorem low_no {a : Int} {n : Nat} (h : bitB a n = false) : a % 2 ^ (n + 1) = a % 2 ^ n := by
  rcases bit_cases a n with ⟨h', _⟩ | ⟨_, e⟩
  · rw [h] at h'; cases h'
  · rw [low_succ, e, Int.mul_zero, Int.add_zero]
theorem low_gap {a : Int} {p : Nat} : ∀ q, p ≤ q → (∀ i, p ≤ i → i < q → bitB a i = false) → a % 2 ^ q = a % 2 ^ p
  | 0, h, _ => by rw [show p = 0 by omega]
  | q + 1, h, hf => by
    by_cases he : p = q + 1
    · rw [he]
    · rw [low_no (hf q (by omega) (by omega)), low_gap q (by omega) fun i h1 h2 => hf i h1 (by omega)]

def onesTo (f : Nat → Bool) : Nat → Nat
  | 0 => 0
  | n + 1 => onesTo f n + if f n = true then 1 else 0
theorem ones_yes {f : Nat → Bool} {n : Nat} (h : f n = true) : onesTo f (n + 1) = onesTo f n + 1 := by rw [onesTo, if_pos h]
theorem ones_no {f : Nat → Bool} {n : Nat} (h : f n = false) : onesTo f (n + 1) = onesTo f n := by rw [onesTo, if_neg (by rw [h]; simp)]; rfl
theorem ones_gap {f : Nat → Bool} {p : Nat} : ∀ q, p ≤ q → (∀ i, p ≤ i → i < q → f i = false) → onesTo f q = onesTo f p
  | 0, h, _ => by rw [show p = 0 by omega]
  | q + 1, h, hf => by
    by_cases he : p = q + 1
    · rw [he]
    · rw [ones_no (hf q (by omega) (by omega)), ones_gap q (by omega) fun i h1 h2 => hf i h1 (by omega)]
theorem ones_run {f : Nat → Bool} {p : Nat} : ∀ k, (∀ i, p ≤ i → i < p + k → f i = true) → onesTo f (p + k) = onesTo f p + k
  | 0, _ => rfl
  | k + 1, hf => by rw [show p + (k + 1) = p + k + 1 by omega, ones_yes (hf (p + k) (by omega) (by omega)), ones_run k fun i h1 h2 => hf i h1 (by omega)]; omega
theorem ones_le (f : Nat → Bool) : ∀ n, onesTo f n ≤ n
  | 0 => Nat.le_refl _
  | n + 1 => by have := ones_le f n; rw [onesTo]; split <;> omega

/-- A 16-bit mask has no higher bits. -/
theorem bit_high {a : Int} (h0 : 0 ≤ a) (h : a < 65536) {i : Nat} (hi : 16 ≤ i) : bitB a i = false := by
  rw [bitB_mod, decide_eq_false_iff_not]
  have hp : (65536 : Int) ≤ 2 ^ i := by
    have h2 : (2 : Nat) ^ 16 ≤ 2 ^ i := Nat.pow_le_pow_right (by omega) hi
    have e : ((2 : Int) ^ i) = ((2 ^ i : Nat) : Int) := (Int.natCast_pow 2 i).symm
    rw [e]
    rw [show (2 : Nat) ^ 16 = 65536 from rfl] at h2
    omega
  rw [Int.ediv_eq_zero_of_lt h0 (by omega)]
  decide

theorem bit_test (a i : Nat) : bitB (a : Int) i = a.testBit i := by
  rw [bitB_mod, Nat.testBit_eq_decide_div_mod_eq]
  rw [decide_eq_decide]
  have e : ((a : Int) / 2 ^ i % 2) = ((a / 2 ^ i % 2 : Nat) : Int) := by push_cast; rfl
  rw [e]; omega

theorem and_zero (a b : Nat) : (a &&& b = 0) ↔ ∀ i, ¬ (bitB (a : Int) i = true ∧ bitB (b : Int) i = true) := by
  simp only [bit_test]
  constructor
  · intro h i ⟨h1, h2⟩
    have := congrArg (fun x => x.testBit i) h
    simp [Nat.testBit_and, h1, h2] at this
  · intro h
    refine Nat.eq_of_testBit_eq fun i => ?_
    rw [Nat.testBit_and, Nat.zero_testBit]
    have := h i
    cases h1 : a.testBit i <;> cases h2 : b.testBit i <;> simp_all

/-! ## What the law says of rows -/

theorem good_run {tick long : Int} {r : Nat × Nat} (ht : 0 ≤ tick) (ht2 : tick ≤ 1099511627776) (hl : 1 ≤ long) (hl2 : long ≤ 1048576) (h1 : 1 ≤ r.2) (h2 : r.1 + r.2 ≤ 32) : goodB tick r.1 long r.2 = true := by
  rw [goodB_iff]; omega

theorem boxesOf_get {tick long : Int} {l : List (Nat × Nat)} (j : Nat) (h : j < l.length) (h' : j < (boxesOf tick long l).length) : (boxesOf tick long l)[j] = ⟨tick, l[j].1, long, l[j].2⟩ := by simp [boxesOf]

theorem apart_rows {tick long mask : Int} (hg : goodB tick 0 long 1 = true) : apartB (boxesOf tick long (runs (bitB mask) 32)) = true := by
  have hr := goodB_iff.1 hg
  have hc := chain_runs (bitB mask) 32
  refine (apartB_iff.2 fun i hi _ => ?_)
  have hi' : i < (runs (bitB mask) 32).length := by rw [boxesOf_length] at hi; exact hi
  have e : ∀ j (hj : j < (runs (bitB mask) 32).length) (hj' : j < (boxesOf tick long (runs (bitB mask) 32)).length), (boxesOf tick long (runs (bitB mask) 32))[j] = ⟨tick, (runs (bitB mask) 32)[j].1, long, (runs (bitB mask) 32)[j].2⟩ := by
    intro j hj hj'; exact boxesOf_get j hj hj'
  obtain ⟨_, g1, g2, _⟩ := chain_mem hc _ (List.getElem_mem hi')
  rw [e i hi' hi]
  refine ⟨good_run hr.1 hr.2.1 hr.2.2.1 hr.2.2.2.1 g1 g2, fun j hj => ?_⟩
  rw [e j (by omega) (by omega)]
  have := chain_sorted hc j i (by omega) hi' hj
  unfold Bx.meets meetsB
  simp only
  rw [Bool.and_eq_false_iff]; right
  rw [Bool.eq_false_iff]; intro h
  have := crossB_iff.1 h
  omega

/-- Two rows of nodes meet just if they have a node in common, and a tick. -/
theorem meet_rows {tick long late mask other : Int} (hg : goodB tick 0 long 1 = true) (hg' : goodB (tick + late) 0 5 1 = true) (h0 : 0 ≤ late) :
    ((boxesOf tick long (runs (bitB mask) 32)).any fun x => (boxesOf (tick + late) 5 (runs (bitB other) 32)).any fun y => x.meets y) = true ↔ (∃ i, i < 32 ∧ bitB mask i = true ∧ bitB other i = true) ∧ late < long := by
  have hr := goodB_iff.1 hg
  have hr' := goodB_iff.1 hg'
  have hc := chain_runs (bitB mask) 32
  have hc' := chain_runs (bitB other) 32
  rw [List.any_eq_true]
  constructor
  · rintro ⟨x, hx, h⟩
    rw [List.any_eq_true] at h
    obtain ⟨y, hy, h⟩ := h
    unfold boxesOf at hx hy
    obtain ⟨r, hr1, rfl⟩ := List.mem_map.1 hx
    obtain ⟨s, hs1, rfl⟩ := List.mem_map.1 hy
    obtain ⟨_, a2, a3, a4⟩ := chain_mem hc r hr1
    obtain ⟨_, b2, b3, b4⟩ := chain_mem hc' s hs1
    unfold Bx.meets meetsB at h
    rw [Bool.and_eq_true] at h
    have hx := crossB_iff.1 h.2
    simp only at hx
    by_cases hle : r.1 ≤ s.1
    · exact ⟨⟨s.1, by omega, a4 s.1 hle (by omega), b4 s.1 (Nat.le_refl _) (by omega)⟩, by omega⟩
    · exact ⟨⟨r.1, by omega, a4 r.1 (Nat.le_refl _) (by omega), b4 r.1 (by omega) (by omega)⟩, by omega⟩
  · rintro ⟨⟨i, hi, hm, ho⟩, hl⟩
    obtain ⟨r, hr1, r2, r3⟩ := chain_has hc i (by omega) hi hm
    obtain ⟨s, hs1, s2, s3⟩ := chain_has hc' i (by omega) hi ho
    obtain ⟨_, a2, a3, a4⟩ := chain_mem hc r hr1
    obtain ⟨_, b2, b3, b4⟩ := chain_mem hc' s hs1
    refine ⟨_, List.mem_map.2 ⟨r, hr1, rfl⟩, ?_⟩
    rw [List.any_eq_true]
    refine ⟨_, List.mem_map.2 ⟨s, hs1, rfl⟩, ?_⟩
    unfold Bx.meets meetsB
    simp only
    rw [good_run hr.1 hr.2.1 hr.2.2.1 hr.2.2.2.1 a2 a3, good_run hr'.1 hr'.2.1 hr'.2.2.1 hr'.2.2.2.1 b2 b3, Bool.true_and, Bool.true_and, crossB_iff]
    omega

/-- What is put together of a run. -/
theorem or_pow {x : Int} {p : Nat} (h0 : 0 ≤ x) (h : x < 2 ^ p) (hp : p < 32) : bits BinOp.or IntKind.i64 x (2 ^ p) = x + 2 ^ p := by
  obtain ⟨a, rfl⟩ := Int.eq_ofNat_of_zero_le h0
  have hpn : (2 : Int) ^ p = ((2 ^ p : Nat) : Int) := by push_cast; rfl
  rw [hpn] at h ⊢
  have ha : a < 2 ^ p := by exact_mod_cast h
  have h31 : 2 ^ p ≤ 2 ^ 31 := Nat.pow_le_pow_right (by omega) (by omega)
  have e : (BitVec.ofInt 64 (a : Int) ||| BitVec.ofInt 64 ((2 ^ p : Nat) : Int)).toNat = a + 2 ^ p := by
    rw [BitVec.toNat_or, BitVec.toNat_ofInt, BitVec.toNat_ofInt]
    have e1 : ((a : Int) % ((2 ^ 64 : Nat) : Int)).toNat = a := by omega
    have e2 : (((2 ^ p : Nat) : Int) % ((2 ^ 64 : Nat) : Int)).toNat = 2 ^ p := by
      generalize 2 ^ p = z at *; omega
    rw [e1, e2, Nat.or_comm]
    have := nat_join p (2 ^ p) a (Nat.mod_self _) ha
    omega
  show IntKind.i64.wrap ((BitVec.ofInt 64 (a : Int) ||| BitVec.ofInt 64 ((2 ^ p : Nat) : Int)).toNat : Int) = _
  rw [e, IntWalk.i64_in _ (by generalize 2 ^ p = z at *; omega)]
  push_cast; rfl

end Go.Proofs.Ytahkhkfmpnoneaa.Pla
