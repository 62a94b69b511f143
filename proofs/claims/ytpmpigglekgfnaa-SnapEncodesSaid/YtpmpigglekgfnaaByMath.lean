/- Numbers and texts as bytes, read back: what layers 12 and 13 have in common (mathematics). -/
import Derived.Test.YtpmpigglekgfnaaOctPur
import Derived.Test.YtpmpigglekgfnaaLst
namespace Go.Proofs.Ytpmpigglekgfnaa.Ent
open Oct
open Tre (inI)
set_option linter.unusedVariables false

def int8 (n : Int) : List UInt8 := beB 8 (toU64 n)
def txt (s : ByteArray) : List UInt8 := beB 2 s.size ++ s.data.toList
def ints (l : List Int) : List UInt8 := l.flatMap int8
/-- So many numbers. -/
def rInts : Nat → RS → List Int × RS
  | 0, s => ([], s)
  | n + 1, s => match rInt s with | (x, s1) => match rInts n s1 with | (l, s2) => (x :: l, s2)
theorem int8_len (n : Int) : (int8 n).length = 8 := beB_length _ _
theorem txt_len (s : ByteArray) : (txt s).length = 2 + s.size := by
  unfold txt
  rw [List.length_append, beB_length, Array.length_toList]; rfl
theorem ints_len : ∀ l : List Int, (ints l).length = 8 * l.length
  | [] => rfl
  | x :: l => by
    have := ints_len l
    unfold ints at this ⊢
    rw [List.flatMap_cons, List.length_append, int8_len, this, List.length_cons]; omega
theorem rInt_put {n : Int} (h : inI n) (r : List UInt8) : rInt (some (int8 n ++ r)) = (n, some r) := by
  simp only [rInt]
  rw [if_pos (by rw [List.length_append, int8_len]; omega), List.take_left' (int8_len n), List.drop_left' (int8_len n)]
  unfold int8
  rw [numB_be8 _ (toU64_lt n), toI_toU n h.1 h.2]
theorem toI_in (n : Nat) (h : n < 18446744073709551616) : inI (toI64 n) := by
  unfold toI64
  constructor <;> split <;> omega
theorem rInt_got {s : RS} {n : Int} {r : List UInt8} (h : rInt s = (n, some r)) : s = some (int8 n ++ r) ∧ inI n := by
  cases s with
  | none => simp [rInt] at h
  | some l =>
    simp only [rInt] at h
    by_cases hl : 8 ≤ l.length
    · rw [if_pos hl] at h
      injection h with h1 h2
      injection h2 with h2
      refine ⟨?_, by rw [← h1]; exact toI_in _ (numB_lt _)⟩
      unfold int8
      rw [← h1, be_back _ (by rw [List.length_take]; omega), ← h2, List.take_append_drop]
    · rw [if_neg hl] at h
      injection h with h1 h2
      cases h2
theorem rInt_none : rInt none = (0, none) := rfl
theorem rText_put {s : ByteArray} (h : s.size ≤ 16) (r : List UInt8) : rText 16 (some (txt s ++ r)) = (s, some r) := by
  have hs : s.data.toList.length = s.size := by rw [Array.length_toList]; rfl
  have e : txt s ++ r = beB 2 s.size ++ (s.data.toList ++ r) := by unfold txt; rw [List.append_assoc]
  have hn : numB ((beB 2 s.size ++ (s.data.toList ++ r)).take 2) = s.size := by rw [List.take_left' (beB_length 2 _), numB_be2 _ (by omega)]
  have hd : (beB 2 s.size ++ (s.data.toList ++ r)).drop 2 = s.data.toList ++ r := List.drop_left' (beB_length 2 _)
  rw [e, rText_ok ⟨by rw [List.length_append, beB_length]; omega, by rw [hn]; omega, by rw [hn, List.length_append, beB_length, List.length_append, hs]; omega⟩, hn, hd, List.take_left' hs, List.drop_left' hs]
theorem rText_got {s : RS} {k : ByteArray} {r : List UInt8} (h : rText 16 s = (k, some r)) : s = some (txt k ++ r) ∧ k.size ≤ 16 := by
  cases s with
  | none => simp [rText] at h
  | some l =>
    by_cases hl : 2 ≤ l.length ∧ ((numB (l.take 2) : Nat) : Int) ≤ 16 ∧ numB (l.take 2) ≤ l.length - 2
    · rw [rText_ok hl] at h
      injection h with h1 h2
      injection h2 with h2
      have hk : k.size = numB (l.take 2) := by
        rw [← h1]
        show (((l.drop 2).take (numB (l.take 2))).toArray).size = _
        rw [List.size_toArray, List.length_take, List.length_drop]
        omega
      refine ⟨?_, by omega⟩
      unfold txt
      have e1 : beB 2 k.size = l.take 2 := by
        rw [hk]
        have := be_two (numB (l.take 2))
        rw [this, two_bytes' (l := l) hl.1]
      have e2 : k.data.toList = (l.drop 2).take (numB (l.take 2)) := by rw [← h1]
      rw [e1, e2, ← h2, List.append_assoc, List.take_append_drop, List.take_append_drop]
    · rw [rText_bad (fun l' e hh => by injection e with e; subst e; exact hl hh)] at h
      injection h with h1 h2
      cases h2
theorem rInts_put : ∀ {l : List Int}, (∀ x ∈ l, inI x) → ∀ r : List UInt8, rInts l.length (some (ints l ++ r)) = (l, some r)
  | [], _, r => rfl
  | x :: l, h, r => by
    have ih := rInts_put (fun y hy => h y (List.mem_cons_of_mem _ hy)) r
    have e : ints (x :: l) ++ r = int8 x ++ (ints l ++ r) := by unfold ints; rw [List.flatMap_cons, List.append_assoc]
    rw [List.length_cons, rInts, e, rInt_put (h x (List.mem_cons_self ..))]
    simp only
    rw [ih]
theorem rInts_none : ∀ n : Nat, ∃ l, rInts n none = (l, none)
  | 0 => ⟨[], rfl⟩
  | n + 1 => by
    obtain ⟨l, h⟩ := rInts_none n
    exact ⟨0 :: l, by rw [rInts, rInt_none]; simp only; rw [h]⟩
theorem rInts_len : ∀ (n : Nat) (s : RS), (rInts n s).1.length = n
  | 0, s => rfl
  | n + 1, s => by
    rw [rInts]
    rcases h : rInt s with ⟨x, s1⟩
    have := rInts_len n s1
    rcases h2 : rInts n s1 with ⟨l, s2⟩
    rw [h2] at this
    simp only at this ⊢
    rw [h2]
    simp only [List.length_cons]
    omega
theorem rInts_got : ∀ {n : Nat} {s : RS} {l : List Int} {r : List UInt8}, rInts n s = (l, some r) → s = some (ints l ++ r) ∧ l.length = n ∧ ∀ x ∈ l, inI x
  | 0, s, l, r, h => by
    injection h with h1 h2
    subst h1 h2
    exact ⟨rfl, rfl, fun x hx => by cases hx⟩
  | n + 1, s, l, r, h => by
    rw [rInts] at h
    rcases h1 : rInt s with ⟨x, s1⟩
    rw [h1] at h
    simp only at h
    rcases h2 : rInts n s1 with ⟨k, s2⟩
    rw [h2] at h
    injection h with e1 e2
    subst e1 e2
    obtain ⟨g1, g2, g3⟩ := rInts_got h2
    subst g1
    obtain ⟨f1, f2⟩ := rInt_got h1
    refine ⟨?_, by rw [List.length_cons, g2], fun y hy => ?_⟩
    · rw [f1]
      unfold ints
      rw [List.flatMap_cons, List.append_assoc]
    · rcases List.mem_cons.1 hy with e | hy
      · subst e; exact f2
      · exact g3 y hy

theorem in_small {n : Nat} (h : n ≤ 1000) : inI (n : Int) := ⟨by omega, by omega⟩
end Go.Proofs.Ytpmpigglekgfnaa.Ent
