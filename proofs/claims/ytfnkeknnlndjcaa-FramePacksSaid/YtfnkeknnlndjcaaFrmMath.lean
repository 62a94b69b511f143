/- Frame: records in sectors, as plain data. -/
import Derived.Test.YtfnkeknnlndjcaaChkByte
namespace Go.Proofs.Ytfnkeknnlndjcaa.Frm
open Oct
open Chk
set_option linter.unusedVariables false

abbrev Bs := List UInt8
theorem getD_is {α : Type} {l : List α} {i : Nat} {d x : α} (h : l[i]? = some x) : l.getD i d = x := by simp [List.getD, h]
theorem getD_past {α : Type} {l : List α} {i : Nat} {d : α} (h : l.length ≤ i) : l.getD i d = d := by simp [List.getD, List.getElem?_eq_none h]

/-- How many sectors a record of n bytes has. -/
def secs (n : Nat) : Nat := (n + 29) / 24
def secsI (n : Int) : Nat := if n < 0 ∨ 65535 < n then 0 else secs n.toNat
theorem secs_pos (n : Nat) : 0 < secs n := by unfold secs; omega
theorem secs_room (n : Nat) : n + 6 ≤ 24 * secs n := by unfold secs; omega
theorem secs_least (n k : Nat) (h : 1 ≤ k) (h2 : k < secs n) : 24 * k < n + 6 := by unfold secs at h2; omega

/-- The first i bytes of data, the stamp behind each 24. -/
def packN (d mk : Bs) : Nat → Bs
  | 0 => []
  | i + 1 => packN d mk i ++ [d.getD i 0] ++ (if i % 24 = 23 then mk else [])
theorem packN_succ (d mk : Bs) (i : Nat) : packN d mk (i + 1) = packN d mk i ++ [d.getD i 0] ++ (if i % 24 = 23 then mk else []) := rfl
theorem packN_le {d mk : Bs} (hm : mk.length = 8) : ∀ i, (packN d mk i).length ≤ 9 * i
  | 0 => by simp [packN]
  | i + 1 => by
    have := packN_le (d := d) hm i
    rw [packN_succ, List.length_append, List.length_append]
    split <;> simp only [List.length_cons, List.length_nil] <;> omega
/-- 24 bytes of the data. -/
def chunk (d : Bs) (k : Nat) : Bs := (List.range 24).map fun j => d.getD (24 * k + j) 0
theorem chunk_length (d : Bs) (k : Nat) : (chunk d k).length = 24 := by simp [chunk]
theorem packN_some (d mk : Bs) (k : Nat) : ∀ j, j ≤ 23 → packN d mk (24 * k + j) = packN d mk (24 * k) ++ (List.range j).map fun i => d.getD (24 * k + i) 0
  | 0, _ => by simp
  | j + 1, h => by
    rw [← Nat.add_assoc, packN_succ, packN_some d mk k j (by omega), if_neg (by omega), List.append_nil, List.range_succ, List.map_append, List.append_assoc]; rfl
theorem packN_sector (d mk : Bs) (k : Nat) : packN d mk (24 * (k + 1)) = packN d mk (24 * k) ++ chunk d k ++ mk := by
  rw [show 24 * (k + 1) = (24 * k + 23) + 1 by omega, packN_succ, packN_some d mk k 23 (by omega), if_pos (by omega)]
  unfold chunk
  rw [List.range_succ (n := 23), List.map_append]
  simp only [List.append_assoc, List.map_cons, List.map_nil]
theorem packN_length {d mk : Bs} (hm : mk.length = 8) : ∀ k, (packN d mk (24 * k)).length = 32 * k
  | 0 => rfl
  | k + 1 => by rw [packN_sector, List.length_append, List.length_append, packN_length hm k, chunk_length, hm]; omega
theorem packN_more (d mk : Bs) (k : Nat) : ∀ j, ∃ t, packN d mk (24 * (k + j)) = packN d mk (24 * k) ++ t
  | 0 => ⟨[], by simp⟩
  | j + 1 => by
    obtain ⟨t, ht⟩ := packN_more d mk k j
    rw [← Nat.add_assoc, packN_sector, ht, List.append_assoc, List.append_assoc]
    exact ⟨_, rfl⟩
/-- Sector q: its bytes. -/
theorem packN_data {d mk : Bs} (hm : mk.length = 8) {k q r : Nat} (hq : q < k) (hr : r < 24) : (packN d mk (24 * k))[32 * q + r]? = some (d.getD (24 * q + r) 0) := by
  obtain ⟨t, ht⟩ := packN_more d mk (q + 1) (k - (q + 1))
  rw [show q + 1 + (k - (q + 1)) = k by omega] at ht
  rw [ht, packN_sector, List.append_assoc, List.append_assoc, List.getElem?_append_right (by rw [packN_length hm]; omega), packN_length hm, show 32 * q + r - 32 * q = r by omega, List.getElem?_append_left (by rw [chunk_length]; exact hr)]
  simp [chunk, hr]
theorem packN_stamp {d mk : Bs} (hm : mk.length = 8) {k q r : Nat} (hq : q < k) (hr : r < 8) : (packN d mk (24 * k))[32 * q + 24 + r]? = mk[r]? := by
  obtain ⟨t, ht⟩ := packN_more d mk (q + 1) (k - (q + 1))
  rw [show q + 1 + (k - (q + 1)) = k by omega] at ht
  rw [ht, packN_sector, List.append_assoc, List.append_assoc, List.getElem?_append_right (by rw [packN_length hm]; omega), packN_length hm, show 32 * q + 24 + r - 32 * q = 24 + r by omega, List.getElem?_append_right (by rw [chunk_length]; omega), chunk_length, show 24 + r - 24 = r by omega, List.getElem?_append_left (by omega)]

def mark (e q : Nat) : Bs := beB 4 e ++ beB 4 q
theorem mark_length (e q : Nat) : (mark e q).length = 8 := by simp [mark, beB_length]
/-- The sum of a record. -/
def sumR (e q : Nat) (b : Bs) : Nat := (crc 0xffffffff#32 (mark e q ++ beB 2 b.length ++ b)).toNat
def dataB (e q : Nat) (b : Bs) : Bs := beB 2 b.length ++ beB 4 (sumR e q b) ++ b
theorem dataB_length (e q : Nat) (b : Bs) : (dataB e q b).length = b.length + 6 := by simp [dataB, beB_length]; omega
def packB (e q : Nat) (b : Bs) : Bs := packN (dataB e q b) (mark e q) (24 * secs b.length)
theorem packB_length (e q : Nat) (b : Bs) : (packB e q b).length = 32 * secs b.length := packN_length (mark_length e q) _

def two (s : Bs) : Nat := 256 * (s.getD 0 0).toNat + (s.getD 1 0).toNat
def numK (s : Bs) (o : Nat) : Nat → Nat
  | 0 => 0
  | k + 1 => numK s o k * 256 + (s.getD (o + k) 0).toNat
def bodyB (s : Bs) (n : Nat) : Bs := (List.range n).map fun i => s.getD ((6 + i) / 24 * 32 + (6 + i) % 24) 0
theorem bodyB_length (s : Bs) (n : Nat) : (bodyB s n).length = n := by simp [bodyB]
theorem bodyB_succ (s : Bs) (n : Nat) : bodyB s (n + 1) = bodyB s n ++ [s.getD ((6 + n) / 24 * 32 + (6 + n) % 24) 0] := by unfold bodyB; rw [List.range_succ, List.map_append]; rfl
/-- The record with which s begins: epoch, number, bytes, sectors. -/
def unpackB (s : Bs) : Option (Nat × Nat × Bs × Nat) :=
  if s.length < 32 then none else if s.length < 32 * secs (two s) then none else
    if packB (numK s 24 4) (numK s 28 4) (bodyB s (two s)) = s.take (32 * secs (two s)) then some (numK s 24 4, numK s 28 4, bodyB s (two s), secs (two s)) else none
theorem two_lt (s : Bs) : two s < 65536 := by unfold two; have := (s.getD 0 0).toNat_lt; have := (s.getD 1 0).toNat_lt; omega
theorem numK_lt (s : Bs) (o : Nat) : ∀ k, numK s o k < 256 ^ k
  | 0 => by simp [numK]
  | k + 1 => by
    have := numK_lt s o k
    have := (s.getD (o + k) 0).toNat_lt
    simp only [numK, Nat.pow_succ]
    omega

theorem beB_at : ∀ (k n r : Nat), r < k → (beB k n)[r]? = some (UInt8.ofNat (n / 256 ^ (k - 1 - r)))
  | 0, n, r, h => by omega
  | k + 1, n, 0, h => by simp [beB]
  | k + 1, n, r + 1, h => by
    show (beB k n)[r]? = _
    rw [beB_at k n r (by omega)]
    congr 4; omega
theorem getD_left {l : Bs} {m : Bs} {i : Nat} (h : i < l.length) : (l ++ m).getD i 0 = l.getD i 0 := by simp [List.getD, List.getElem?_append_left h]
theorem pack_data {e q : Nat} {b rest : Bs} {i : Nat} (hi : i < b.length + 6) : (packB e q b ++ rest).getD (i / 24 * 32 + i % 24) 0 = (dataB e q b).getD i 0 := by
  have hk := secs_room b.length
  have hq : i / 24 < secs b.length := by omega
  have := packN_data (d := dataB e q b) (mark_length e q) hq (Nat.mod_lt i (by omega : 0 < 24))
  rw [getD_left (by rw [packB_length]; omega)]
  unfold packB
  rw [show i / 24 * 32 + i % 24 = 32 * (i / 24) + i % 24 by omega, getD_is this, show 24 * (i / 24) + i % 24 = i by omega]
theorem data_two {e q : Nat} {b : Bs} {i : Nat} (hi : i < 2) : (dataB e q b).getD i 0 = UInt8.ofNat (b.length / 256 ^ (1 - i)) := by
  unfold dataB
  rw [List.append_assoc, getD_left (by rw [beB_length]; exact hi)]
  exact getD_is (by rw [beB_at 2 b.length i hi])
theorem two_pack {e q : Nat} {b rest : Bs} (hb : b.length < 65536) : two (packB e q b ++ rest) = b.length := by
  unfold two
  have h0 := pack_data (e := e) (q := q) (b := b) (rest := rest) (i := 0) (by omega)
  have h1 := pack_data (e := e) (q := q) (b := b) (rest := rest) (i := 1) (by omega)
  simp only [Nat.zero_div, Nat.zero_mul, Nat.zero_mod, Nat.add_zero] at h0
  simp only [show 1 / 24 * 32 + 1 % 24 = 1 from rfl] at h1
  rw [h0, h1, data_two (by omega), data_two (by omega), u8_of, u8_of]
  simp
  omega
theorem body_pack {e q : Nat} {b rest : Bs} : bodyB (packB e q b ++ rest) b.length = b := by
  apply List.ext_getElem?
  intro i
  by_cases hi : i < b.length
  · unfold bodyB
    rw [List.getElem?_map, List.getElem?_range hi, Option.map_some, pack_data (by omega)]
    unfold dataB
    rw [List.getD, List.getElem?_append_right (by rw [List.length_append, beB_length, beB_length]; omega)]
    simp only [List.length_append, beB_length]
    rw [show 6 + i - (2 + 4) = i by omega, List.getElem?_eq_getElem hi, Option.getD_some]
  · rw [List.getElem?_eq_none (by rw [bodyB_length]; omega), List.getElem?_eq_none (by omega)]
theorem stamp_at {e q : Nat} {b rest : Bs} {r : Nat} (hr : r < 8) : (packB e q b ++ rest).getD (24 + r) 0 = (mark e q).getD r 0 := by
  have h1 := secs_pos b.length
  have := packN_stamp (d := dataB e q b) (mark_length e q) (k := secs b.length) (q := 0) h1 hr
  rw [Nat.mul_zero, Nat.zero_add] at this
  rw [getD_left (by rw [packB_length]; omega), List.getD, List.getD, ← this]; rfl
theorem four_be (s : Bs) (o n : Nat) (hn : n < 4294967296) (h : ∀ r, r < 4 → s.getD (o + r) 0 = UInt8.ofNat (n / 256 ^ (3 - r))) : numK s o 4 = n := by
  have h0 := h 0 (by omega)
  have h1 := h 1 (by omega)
  have h2 := h 2 (by omega)
  have h3 := h 3 (by omega)
  simp only [numK]
  rw [h0, h1, h2, h3, u8_of, u8_of, u8_of, u8_of]
  simp
  omega
theorem epoch_pack {e q : Nat} {b rest : Bs} (he : e < 4294967296) : numK (packB e q b ++ rest) 24 4 = e :=
  four_be _ 24 e he fun r hr => by
    rw [stamp_at (by omega)]
    unfold mark
    rw [getD_left (by rw [beB_length]; exact hr)]
    exact getD_is (beB_at 4 e r hr)
theorem seq_pack {e q : Nat} {b rest : Bs} (hq : q < 4294967296) : numK (packB e q b ++ rest) 28 4 = q :=
  four_be _ 28 q hq fun r hr => by
    rw [show 28 + r = 24 + (4 + r) by omega, stamp_at (by omega)]
    unfold mark
    rw [List.getD, List.getElem?_append_right (by rw [beB_length]; omega), beB_length, show 4 + r - 4 = r by omega, beB_at 4 q r hr]; rfl
/-- A record comes back of its sectors, whatever lies behind. -/
theorem unpack_pack {e q : Nat} {b : Bs} (rest : Bs) (he : e < 4294967296) (hq : q < 4294967296) (hb : b.length < 65536) : unpackB (packB e q b ++ rest) = some (e, q, b, secs b.length) := by
  have hl := packB_length e q b
  have h1 := secs_pos b.length
  unfold unpackB
  rw [two_pack hb, epoch_pack he, seq_pack hq, body_pack, if_neg (by rw [List.length_append]; omega), if_neg (by rw [List.length_append]; omega), if_pos (by rw [List.take_append_of_le_length (by omega), List.take_of_length_le (by omega)])]
/-- Cut off it does not. -/
theorem unpack_cut {e q : Nat} {b : Bs} {m : Nat} (hb : b.length < 65536) (hm : m < 32 * secs b.length) : unpackB ((packB e q b).take m) = none := by
  have hl := packB_length e q b
  unfold unpackB
  by_cases h : m < 32
  · rw [if_pos (by rw [List.length_take]; omega)]
  · have h2 : two ((packB e q b).take m) = b.length := by
      have := two_pack (e := e) (q := q) (b := b) (rest := []) hb
      rw [List.append_nil] at this
      rw [← this]
      unfold two
      simp only [List.getD, List.getElem?_take]
      rw [if_pos (by omega), if_pos (by omega)]
    rw [h2, if_neg (by rw [List.length_take]; omega), if_pos (by rw [List.length_take]; omega)]
/-- What comes back is what s begins with. -/
theorem unpack_some {s : Bs} {e q k : Nat} {b : Bs} (h : unpackB s = some (e, q, b, k)) : e < 4294967296 ∧ q < 4294967296 ∧ b.length < 65536 ∧ k = secs b.length ∧ 32 * k ≤ s.length ∧ packB e q b = s.take (32 * k) := by
  unfold unpackB at h
  split at h
  · cases h
  · split at h
    · cases h
    · split at h
      · rename_i h3
        injection h with h
        injection h with h4 h
        injection h with h5 h
        injection h with h6 h7
        subst h4 h5 h6 h7
        have e1 := numK_lt s 24 4
        have e2 := numK_lt s 28 4
        refine ⟨by simpa using e1, by simpa using e2, by rw [bodyB_length]; exact two_lt s, by rw [bodyB_length], by omega, h3⟩
      · cases h
theorem zeros_none : unpackB (List.replicate 64 0) = none := by decide +kernel
end Go.Proofs.Ytfnkeknnlndjcaa.Frm
